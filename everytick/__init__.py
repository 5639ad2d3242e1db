"""Everytick: a synchronous language, from texts to machines."""
