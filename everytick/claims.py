"""Claims, closed sets and breaks ([10.1] to [10.4])."""

from everytick.machines import explored, first_way_out
from everytick.observing import is_claim_about, observed_program
from everytick.systems import Watched, is_closed_in, is_way_out_of

# What the observed program gives at each instant as long as the claim is not broken.
GOOD = (True,)


def is_claim(program, value):
    """Tell whether any value is a claim about a program."""
    return is_claim_about(program, value)


def observed(program, claim):
    """Return the observed program."""
    return observed_program(program, claim)


def verdict(program, claim, limit):
    """Return the least closed set as holds, or the first break as broken."""
    rows, states, table = explored(observed(program, claim), limit)
    way = first_way_out(table, GOOD)
    if way is None:
        return ("holds", tuple(states))
    return ("broken", tuple([rows[r] for r in way]))


def is_closed(program, claim, value):
    """Tell whether any value is a closed set."""
    whole = observed(program, claim)
    return is_closed_in(Watched(whole, GOOD), whole, value)


def is_break(program, claim, value):
    """Tell whether any value is a break."""
    whole = observed(program, claim)
    return is_way_out_of(Watched(whole, GOOD), whole, value)
