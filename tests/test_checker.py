"""[11.1] to [11.7]: statements, certificates, and the checker."""

import unittest

from everytick.causality import first_ring, is_right
from everytick.checker import check, is_sound
from everytick.claims import verdict
from everytick.clocks import BadClock, clash_of, place_clocks
from everytick.errors import TooMany
from everytick.kinds import fits
from everytick.machines import explored, first_fault, machine_of
from everytick.making import finished, made
from everytick.normal import normalized
from everytick.places import places_of
from everytick.programs import is_program
from everytick.schedules import first_schedule
from everytick.sharing import shared
from tests import check_oracle as oracle
from tests.check_oracle import Rules
from tests.claiming import Claiming, same_again
from tests.fitting import Fitting
from tests.samples import ODD_VALUES, nested_value, paths, replaced, same, value_at
from tests.test_any_value import PROGRAM, spoilt_plainly
from tests.test_claims import LATE, NEVER, claim_of, late_claim, read
from tests.test_making import program_of

T, F = True, False
OPPOSITE = {"clocked": "clash", "order": "ring", "sound": "fault", "holds": "breaks", "same": "apart", "carries": "strays"}
OPPOSITE.update({other: one for one, other in list(OPPOSITE.items())})

HALF = read("sort E = A | B", "node half(c: bool, e: E, x: mod 3) -> (y: mod 3)", "var a: mod 3, b: mod 3, d: mod 3",
            "a = x when c", "d = b + 1:3", "b = x when not c",
            "y = merge c (false -> d) (true -> pre (a -> a))", "end", "main half")
BAD = read("node bad(c: bool, x: bool) -> (y: bool)", "var a: bool", "a = x when c", "y = a and x", "end", "main bad")
RING = read("node f(x: bool) -> (y: bool)", "var a: bool, b: bool, c: bool", "a = b and x", "b = a or y", "c = c", "y = false fby a", "end", "main f")
FAULTY = read("node f(x: bool) -> (y: bool)", "y = if x then pre x else true", "end", "main f")
NUMBERS = read("node f(n: mod 2) -> (m: mod 2)", "m = 0:2 fby n", "end", "main f")
OTHER = read("node f(k: mod 2) -> (m: mod 2)", "m = 0:2 -> pre k", "end", "main f")
ZERO = read("node f(n: mod 2) -> (m: mod 2)", "m = 0:2", "end", "main f")


def opposite(statement):
    return (OPPOSITE[statement[0]],) + statement[1:]


def clocking(program, name):
    clocks = place_clocks(program, name)
    return tuple(clocks[place] for place in places_of(program, name))


class CheckTest(unittest.TestCase):
    def good(self, statement, certificate):
        self.assertIs(is_sound(statement), True)
        self.assertIs(check(statement, certificate), True)
        self.assertIs(check(opposite(statement), certificate), False)

    def bad(self, statement, *certificates):
        self.assertIs(is_sound(statement), True)
        for certificate in certificates:
            self.assertIs(check(statement, certificate), False, certificate)

    def spoil(self, statement, certificate, is_good):
        """A certificate that is right, and then each way to exchange, leave out or add something in it."""
        self.good(statement, certificate)
        values = spoilt_plainly(certificate) + list(spoilt_parts(certificate))
        for value in values:
            told = check(statement, value)
            self.assertIs(told, is_good(value), value)
        self.assertTrue(any(not is_good(value) for value in values))
        self.bad(statement, *[value for value in list(ODD_VALUES) + [nested_value(100)] if not is_good(value)])


def spoilt_parts(value):
    """A value with parts of tuples in it left out, twice, or exchanged with each other; and True for 1."""
    for path in paths(value):
        part = value_at(value, path)
        if isinstance(part, tuple):
            for k in range(len(part)):
                yield replaced(value, path, part[:k] + part[k + 1:])
                yield replaced(value, path, part[:k] + (part[k],) + part[k:])
                yield replaced(value, path, part[:k] + part[k + 1:] + (part[k],))
        elif type(part) is int and part in (0, 1):
            yield replaced(value, path, bool(part))
        elif type(part) is bool:
            yield replaced(value, path, int(part))


class ClocksTest(CheckTest):
    def test_clockings(self):
        statement = ("clocked", HALF, "half")
        self.spoil(statement, clocking(HALF, "half"), lambda value: oracle.is_clocking(HALF, "half", value))

    def test_other_clockings(self):
        value = read("node f(c: bool) -> (y: bool)", "var a: bool", "a = true", "y = c", "end", "main f")
        statement = ("clocked", value, "f")
        least = clocking(value, "f")
        self.assertEqual(least, ((),) * 5)
        self.good(statement, least)
        places = places_of(value, "f")
        for clock in ((("c", T),), (("c", F),), (("y", T), ("a", F)), (("c", T),) * 30):
            self.good(statement, tuple(clock if place in ("a", (0, ())) else () for place in places))
            self.bad(statement, tuple(clock if place in ("a",) else () for place in places),
                     tuple(clock if place in ("y", (1, ())) else () for place in places))
        for clock in ((("c", 1),), (("c", 0),), (("d", T),), (("c",),), ("c", T), (("c", T, T),), (("c", None),), ((("c",), T),), ((T, "c"),)):
            self.bad(statement, tuple(clock if place in ("a", (0, ())) else () for place in places))

    def test_inputs_and_outputs_are_on_the_base_clock(self):
        value = read("node f(x: bool) -> (y: bool)", "y = x", "end", "main f")
        self.good(("clocked", value, "f"), ((),) * 3)
        for clock in ((("x", T),), (("y", F), ("x", T))):
            self.bad(("clocked", value, "f"), (clock,) * 3)
        value = read("node f(x: bool) -> (y: bool)", "y = true", "end", "main f")
        for clock in ((("x", T),), (("y", F),)):
            self.bad(("clocked", value, "f"), ((), clock, clock))
            self.bad(("clocked", value, "f"), (clock, (), ()))

    def test_a_node_of_several(self):
        value = read("node g(c: bool, x: bool) -> (y: bool)", "var a: bool", "a = x when c", "y = c", "end",
                     "node f(x: bool) -> (y: bool)", "y = g(x, x)", "end", "main f")
        self.good(("clocked", value, "g"), clocking(value, "g"))
        self.good(("clocked", value, "f"), clocking(value, "f"))
        self.bad(("clocked", value, "f"), clocking(value, "g"))

    def test_clashes(self):
        self.spoil(("clash", BAD, "bad"), self.clash(BAD, "bad"), lambda value: oracle.is_clash(BAD, "bad", value))

    def clash(self, program, name):
        with self.assertRaises(BadClock) as caught:
            place_clocks(program, name)
        return caught.exception.chain

    def test_chains_of_each_case(self):
        # 1: another pair than the last one is taken away.
        value = read("node f(c: bool, d: bool, x: bool) -> (y: bool)", "var a: bool, b: bool", "a = x when c", "b = a and (x when d)", "y = x",
                     "end", "main f")
        one = ("x", (0, (0,)), (0, ()), "a", (1, (0,)), (1, ()), (1, (1,)), (1, (1, 0)), "x")
        statement = ("clash", value, "f")
        self.good(statement, one)
        self.good(statement, one[1:8])
        self.good(statement, one[::-1])
        self.bad(statement, one[:7], one[:3], one[:2] + one[3:], one[:1], (), ("x", "x"), ("x", "c"), ((0, ()), (0, ())))
        # 2: from an output, a pair is taken away from the empty row.
        self.good(("clash", BAD, "bad"), ("y", (1, ()), (1, (0,)), "a", (0, ()), (0, (0,))))
        self.bad(("clash", BAD, "bad"), ((1, ()), (1, (0,)), "a", (0, ()), (0, (0,))), ("a", (0, ()), (0, (0,))))
        # 3: back at the first place the row would be longer or shorter.
        value = read("node f(x: bool) -> (y: bool)", "var a: bool", "a = a when x", "y = x", "end", "main f")
        self.good(("clash", value, "f"), ("a", (0, (0,)), (0, ()), "a"))
        self.good(("clash", value, "f"), ("a", (0, ()), (0, (0,)), "a"))
        self.good(("clash", value, "f"), ((0, ()), "a", (0, (0,)), (0, ())))
        self.bad(("clash", value, "f"), ("a", (0, (0,)), (0, ())), ("a", (0, (0,)), "a"), ("a", (0, ()), "a"))

    def test_true_as_the_number_of_an_equation(self):
        chain = ("y", (1, ()), (1, (0,)), "a", (0, ()), (0, (0,)))
        self.bad(("clash", BAD, "bad"), ("y", (T, ()), (1, (0,)), "a", (0, ()), (0, (0,))), ("y", (1, ()), (1, (F,)), "a", (0, ()), (0, (0,))),
                 chain[:5] + ((F, (0,)),), list(chain))

    def test_fitting_programs(self):
        told = {"clocked": 0, "clash": 0}
        for seed in range(120):
            value = Fitting(seed, loose=0.1 * (seed % 3)).program(1 + seed % 2)
            for name, *_ in value[1]:
                try:
                    word, found = "clocked", clocking(value, name)
                except BadClock as bad:
                    word, found = "clash", bad.chain
                told[word] += 1
                self.good((word, value, name), found)
                for other in list(spoilt_parts(found))[:25]:
                    is_good = oracle.is_clocking if word == "clocked" else oracle.is_clash
                    self.assertIs(check((word, value, name), other), is_good(value, name, other))
        self.assertGreater(min(told.values()), 20)


class OrdersTest(CheckTest):
    def test_orders(self):
        value = read("node f(x: bool) -> (y: bool)", "var a: bool, b: bool", "a = b and x", "b = false fby y", "y = a or b", "end", "main f")
        self.spoil(("order", value, "f"), (1, 0, 2), lambda other: oracle.is_order(value, "f", other))
        self.bad(("order", value, "f"), (0, 1, 2), (T, F, 2), (1, 0), ())

    def test_rings(self):
        statement = ("ring", RING, "f")
        self.spoil(statement, ("a", "b"), lambda other: oracle.is_ring(RING, "f", other))
        for ring in (("a", "b"), ("b", "a"), ("c",), ("a", "b", "a", "b"), ("c", "c", "c")):
            self.good(statement, ring)
        self.bad(statement, (), ("a",), ("b", "y"), ("a", "b", "a"), ("y", "a"), ("x",), ("a", "c"), ["a", "b"], "c", ("z",), (("c",),))

    def test_random_programs(self):
        told = {"order": 0, "ring": 0}
        for seed in range(200):
            value = Fitting(seed).program(1 + seed % 2)
            if clash_of(value) is not None:
                self.assertIs(is_sound(("order", value, value[2])), False)
                continue
            for name, *_ in value[1]:
                ring = first_ring(value, name)
                word, found = ("ring", ring) if ring is not None else ("order", first_schedule(value, name))
                told[word] += 1
                self.good((word, value, name), found)
                for other in spoilt_parts(found):
                    is_good = oracle.is_order if word == "order" else oracle.is_ring
                    self.assertIs(check((word, value, name), other), is_good(value, name, other))
        self.assertGreater(min(told.values()), 20)


class RunsTest(CheckTest):
    """The statements about runs: [11.3] to [11.5], and [10.3] and [10.4]."""

    def told(self, word, *rest, spoil=True):
        """Which of two opposite statements is true, with a certificate; the other one has none of those that are tried."""
        rules = Rules(word, *rest)
        kind, found = rules.found()
        is_good = rules.is_closed if kind == "closed" else rules.is_way_out
        statement = (word if kind == "closed" else OPPOSITE[word],) + rest
        self.good(statement, found)
        if spoil:
            self.spoil(statement, found, is_good)
        return statement[0]

    def test_sound_and_fault(self):
        self.assertEqual(self.told("sound", LATE), "sound")
        self.assertEqual(self.told("sound", FAULTY), "fault")
        self.good(("sound", LATE), tuple(reversed(explored(LATE, 10)[1])))
        self.good(("fault", FAULTY), ((T,),))
        self.bad(("fault", FAULTY), ((F,),), ((F,), (T,)), ((T,), (T,)), ())
        self.bad(("sound", FAULTY), tuple(explored(FAULTY, 10)[1]))
        self.bad(("fault", LATE), ((T,),), ((F,), (T,)), ())

    def test_states_that_cannot_be_reached(self):
        states = tuple(explored(LATE, 10)[1])
        self.good(("sound", LATE), states)
        self.bad(("sound", LATE), states + (((((None,)),), ()),), states[1:])
        value = read("node f(x: bool) -> (y: bool)", "y = if x then (false fby x) else true", "end", "main f")
        states = tuple(explored(value, 10)[1])
        self.bad(("sound", value), states + ((((None,),), ()),), states + (states[0],))
        self.assertEqual(Rules("sound", value).is_closed(states + ((((None,),), ()),)), False)
        value = read("node f(n: mod 3) -> (y: bool)", "var k: mod 3", "k = 0:3 fby k", "y = n = n", "end", "main f")
        states = tuple(explored(value, 10)[1])
        self.assertEqual(len(states), 2)
        self.good(("sound", value), states + ((((2,),), ()), (((None,),), ())))
        self.bad(("sound", value), states + ((((3,),), ()),), states + ((((T,),), ()),), states + ((((0,),), ()),))

    def test_states_and_memories_that_are_none(self):
        """They would lead on to themselves for ever, but have not the form of states."""
        value = read("node f(n: mod 2) -> (m: mod 2)", "var k: mod 2", "k = 0:2 fby k", "m = n", "end", "main f")
        machine = (("m", ("n",), ("m",), (0,), (), (("set", "m", ("var", "n")), ("store", 0, ("cell", 0)))),)
        (start, memory), settled = Rules("carries", value, machine).start, (((0,),), ())
        wrong = [(((held,),), ()) for held in ("A", T, 2, ((),))] + [((("A",), ()), ()), (((0,),), ((),)), start + ((),)]
        for word, rest, own in (("sound", (), lambda state: state), ("same", (value,), lambda state: (state, settled)),
                                ("same", (value,), lambda state: (settled, state)), ("carries", (machine,), lambda state: (state, memory))):
            statement = (word, value) + rest
            found = Rules(word, value, *rest).found()[1]
            self.good(statement, found + (own((((1,),), ())),))
            self.good(statement, found + (own((((None,),), ())),))
            for state in wrong:
                self.bad(statement, found + (own(state),))
        found = Rules("carries", value, machine).found()[1]
        self.good(("carries", value, machine), found + ((settled, ((5,), ())),))
        for other in (((5, 5), ()), ((), ()), ((5,), ((),)), ((5,),), ((5,), (), ()), (((),), ()), (((5,),), ()), 5):
            self.bad(("carries", value, machine), found + ((settled, other),))
        self.bad(("carries", value, machine), found + ((settled, memory, memory),), found + ((settled,),))
        found = Rules("same", value, value).found()[1]
        self.bad(("same", value, value), found + ((settled, settled, settled),), found + ((settled,),))

    def test_holds_and_breaks(self):
        for claim in (late_claim("ok = y = (false fby x)"), NEVER, late_claim("ok = if x then true else pre x"), late_claim("ok = x -> false")):
            word, found = verdict(LATE, claim, 100)
            word = {"holds": "holds", "broken": "breaks"}[word]
            self.good((word, LATE, claim), found)
            for other in spoilt_plainly(found):
                self.assertIs(type(check((word, LATE, claim), other)), bool)
                self.assertIs(check(opposite((word, LATE, claim)), other), False)
        statement = ("holds", LATE, late_claim("ok = y = (false fby x)"))
        states = verdict(*statement[1:], 10)[1]
        self.good(statement, states[::-1])
        for k in range(3):
            self.bad(statement, states[:k] + states[k + 1:], states + (states[k],))
        self.good(("breaks", LATE, NEVER), ((F,), (T,), (T,)))
        self.bad(("breaks", LATE, NEVER), ((T,), (F,), (F,)), ((T,),), ())

    def test_same_and_apart(self):
        self.assertEqual(self.told("same", NUMBERS, OTHER), "same")
        self.assertEqual(self.told("same", NUMBERS, ZERO), "apart")
        self.assertEqual(self.told("same", ZERO, ZERO), "same")
        self.assertEqual(self.told("same", LATE, FAULTY), "apart")
        self.assertEqual(self.told("same", FAULTY, FAULTY), "same")
        self.good(("apart", NUMBERS, ZERO), ((0,), (0,), (1,), (0,)))
        self.bad(("apart", NUMBERS, ZERO), ((1,),), ((1,), (1,), (1,)), ((T,), (0,)), ())
        self.bad(("same", NUMBERS, ZERO), ((Rules("same", NUMBERS, ZERO).start),), (Rules("same", NUMBERS, ZERO).start,))
        self.good(("apart", LATE, FAULTY), ((F,),))
        self.good(("apart", LATE, FAULTY), ((T,),))

    def test_faults_of_both(self):
        twice = read("node f(z: bool) -> (y: bool)", "var a: bool", "a = pre z", "y = if z then a else true", "end", "main f")
        self.assertEqual(self.told("same", FAULTY, twice), "same")
        never = read("node f(x: bool) -> (y: bool)", "y = if x then x else true", "end", "main f")
        self.assertEqual(self.told("same", FAULTY, never), "apart")
        self.bad(("apart", FAULTY, FAULTY), ((T,),), ((T,), (F,)))
        late = read("node f(x: bool) -> (y: bool)", "y = if x then pre (x -> not x) else true", "end", "main f")
        # Behind a fault of both nothing is told apart.
        self.assertEqual(self.told("same", FAULTY, late), "apart")
        self.bad(("apart", FAULTY, late), ((T,), (T,)))

    def test_carries_and_strays(self):
        machine = finished(NUMBERS)
        self.assertEqual(self.told("carries", NUMBERS, machine), "carries")
        self.assertEqual(self.told("carries", NUMBERS, made(normalized(NUMBERS))), "carries")
        self.assertEqual(self.told("carries", ZERO, machine), "strays")
        self.assertEqual(self.told("carries", NUMBERS, finished(ZERO)), "strays")
        self.good(("strays", NUMBERS, finished(ZERO)), ((1,), (0,)))
        self.bad(("strays", NUMBERS, finished(ZERO)), ((1,),), ((1,), (1,), (1,)), ((0,), (0,)), ())

    def test_true_is_not_1_in_what_a_machine_gives(self):
        machine = (("m", ("n",), ("m",), (), (), (("set", "m", ("const", F)),)),)
        self.assertEqual(self.told("carries", ZERO, machine), "strays")
        self.assertEqual(self.told("carries", ZERO, (("m", ("n",), ("m",), (), (), (("set", "m", ("const", 0)),)),)), "carries")
        nothing = (("m", ("n",), ("m",), (), (), ()),)
        self.assertEqual(self.told("carries", ZERO, nothing), "strays")

    def test_faults_and_what_comes_behind_them_do_not_matter(self):
        machine = (("m", ("x",), ("y",), (0,), (), (
            ("set", "y", ("if", ("eq", ("cell", 0), ("const", 0)), ("not", ("and", ("var", "x"), ("const", F))), ("cell", 0))),
            ("store", 0, ("if", ("var", "x"), ("const", T), ("const", F))))),)
        self.assertEqual(self.told("carries", FAULTY, machine), "strays")
        self.bad(("strays", FAULTY, machine), ((T,),), ((T,), (T,)))
        always = read("node f(x: bool) -> (y: bool)", "y = if x then pre x else true", "end", "main f")
        machine = (("m", ("x",), ("y",), (0,), (), (
            ("set", "y", ("if", ("var", "x"), ("cell", 0), ("const", T))), ("store", 0, ("var", "x")))),)
        self.assertEqual(self.told("carries", always, machine), "carries")

    def test_memories_of_parts(self):
        value = read("node g(n: mod 2) -> (m: mod 2)", "m = 0:2 fby n", "end", "node f(n: mod 2, r: bool) -> (m: mod 2)", "m = g(n) every r", "end",
                     "main f")
        machine = finished(value)
        self.assertEqual(self.told("carries", value, machine), "carries")
        found = Rules("carries", value, machine).found()[1]
        state, (cells, ((inner, more),)) = found[1]
        self.assertTrue(same((cells, more), ((), ())))
        for memory in ((cells, ()), (cells, ((inner, more), (inner, more))), (cells, ((inner + (1,), more),)), (cells, (inner, more)),
                       (cells, ((tuple((v,) for v in inner), more),)), ((1,), ((inner, more),)), None, (cells,)):
            self.bad(("carries", value, machine), found[:1] + ((state, memory),) + found[2:], found + ((state, memory),))

    def test_memories_that_are_not_reached(self):
        found = Rules("carries", ZERO, (("m", ("n",), ("m",), ("A",), (), (("set", "m", ("const", 0)),)),)).found()[1]
        statement = ("carries", ZERO, (("m", ("n",), ("m",), ("A",), (), (("set", "m", ("const", 0)),)),))
        for value in (None, T, 1, -5, 10 ** 40, "", "anything"):
            self.good(statement, found + ((found[0][0], ((value,), ())),))
        self.bad(statement, found + ((found[0][0], (((),), ())),), found + ((found[0][0], ((("A",),), ())),))

    def test_random_programs(self):
        told = {}
        for seed in range(70):
            value = program_of(seed)
            if not is_program(value):
                # A translation may be beyond the bounds of [1.2] to [1.6].
                self.assertIs(is_sound(("sound", value)), False)
                continue
            try:
                _, states, _ = explored(value, 30)
            except TooMany:
                continue
            if len(states) * len(oracle.rows_of(value)) > 120:
                continue
            words = [self.told("sound", value, spoil=False), self.told("same", value, shared(value), spoil=False),
                     self.told("carries", value, finished(value), spoil=False)]
            word, found = ("sound", tuple(states)) if first_fault(machine_of(value, 30)) is None else ("fault", None)
            self.assertEqual(word, words[0])
            if found is not None:
                self.good(("sound", value), found)
            for word in words:
                told[word] = told.get(word, 0) + 1
        self.assertGreater(min(told["sound"], told["same"], told["carries"]), 15)

    def test_random_claims(self):
        told = {"holds": 0, "broken": 0}
        for seed in range(60):
            maker = Claiming(seed, nil=0.03, groups=2)
            program = maker.program(1)
            claim = maker.claim(program) if seed % 4 else same_again(program)
            if len(oracle.rows_of(program)) > 20:
                continue
            try:
                word, found = verdict(program, claim, 50)
            except TooMany:
                continue
            told[word] += 1
            self.good(({"holds": "holds", "broken": "breaks"}[word], program, claim), found)
        self.assertGreater(min(told.values()), 10)


class SoundTest(unittest.TestCase):
    """[11.2]"""

    def sound(self, *statement):
        self.assertIs(is_sound(statement), True)

    def unsound(self, *statement):
        self.assertIs(is_sound(statement), False, statement)
        for certificate in (None, (), ((),), (0,), ((F,),), ("y",)):
            self.assertIs(check(statement, certificate), False)

    def test_words_and_lengths(self):
        machine = finished(LATE)
        rests = {"clocked": (LATE, "late"), "order": (LATE, "late"), "sound": (LATE,), "holds": (LATE, NEVER), "same": (LATE, LATE),
                 "carries": (LATE, machine)}
        for word, rest in rests.items():
            for name in (word, OPPOSITE[word]):
                self.sound(name, *rest)
                self.unsound(name, *rest[:-1])
                self.unsound(name, *rest, None)
                self.unsound(name.upper(), *rest)
        for word in ("", "true", None, 3, ("sound",), "is_sound"):
            self.unsound(word, LATE)
            self.unsound(word, LATE, "late")
        self.assertIs(is_sound(["sound", LATE]), False)
        self.assertIs(is_sound(()), False)

    def test_programs_about_clocks(self):
        blocks = read("node f(x: bool) -> (y: bool)", "states", "state A", "y = x", "state B", "y = x", "end", "end", "main f")
        unfit = read("node f(x: bool) -> (y: bool)", "y = z", "end", "main f")
        for word in ("clocked", "clash"):
            self.sound(word, LATE, "late")
            self.sound(word, BAD, "bad")
            self.sound(word, RING, "f")
            for name in ("f", "", "y", None, 0, ("late",)):
                self.unsound(word, LATE, name)
            for program in (blocks, unfit, None, 3, "late", (), LATE[:2], LATE + (1,), nested_value(90)):
                self.unsound(word, program, "f")

    def test_programs_about_orders(self):
        unfit = read("node f(x: bool) -> (y: bool)", "y = z", "end", "main f")
        two = (BAD[0], BAD[1] + LATE[1], "late")
        self.assertTrue(fits(two))
        for word in ("order", "ring"):
            self.sound(word, RING, "f")
            self.unsound(word, BAD, "bad")
            self.unsound(word, unfit, "f")
            self.unsound(word, two, "late")
            self.unsound(word, RING, "g")
        self.sound("clocked", two, "late")

    def test_programs_about_runs(self):
        self.assertFalse(is_right(RING) or is_right(BAD))
        for word in ("sound", "fault"):
            self.sound(word, LATE)
            for program in (RING, BAD, None, LATE[1], (), read("node f(x: bool) -> (y: bool)", "y = z", "end", "main f"),
                            read("node f(x: bool) -> (y: bool)", "y = x", "end", "main g")):
                self.unsound(word, program)

    def test_256_input_rows_and_more(self):
        def wide(many):
            return read(f"node f(n: mod 32, m: mod {many}) -> (y: bool)", "y = n = n", "end", "main f")

        claims = [claim_of(wide(many), f"node c(n: mod 32, m: mod {many}, y: bool) -> (ok: bool)", "ok = y") for many in (8, 9)]
        few, more = wide(8), wide(9)
        for word in ("sound", "fault"):
            self.sound(word, few)
            self.unsound(word, more)
        for word in ("holds", "breaks"):
            self.sound(word, few, claims[0])
            self.unsound(word, more, claims[1])
        for word in ("same", "apart"):
            self.sound(word, few, few)
            self.unsound(word, more, more)
        for word in ("carries", "strays"):
            self.sound(word, few, finished(few))
            self.unsound(word, more, finished(more))
        self.sound("clocked", more, "f")
        self.sound("order", more, "f")
        self.assertIs(check(("sound", few), (((), ()),)), True)
        self.assertIs(check(("holds", few, claims[0]), verdict(few, claims[0], 10)[1]), True)

    def test_only_main_counts_for_the_rows(self):
        value = read("node g(n: mod 32, m: mod 32) -> (y: bool)", "y = n = m", "end", "node f(n: mod 32) -> (y: bool)", "y = g(n, n)", "end", "main f")
        self.sound("sound", value)
        self.unsound("sound", value[:2] + ("g",))

    def test_claims(self):
        for word in ("holds", "breaks"):
            self.sound(word, LATE, NEVER)
            self.unsound(word, LATE, ("late",) + NEVER[1:])
            self.unsound(word, LATE, late_claim("ok = z"))
            self.unsound(word, LATE, late_claim("ok = ok"))
            self.unsound(word, LATE, None)
            self.unsound(word, BAD, NEVER)
            self.unsound(word, NUMBERS, NEVER)

    def test_interfaces(self):
        named = read("sort E = A | B", "node f(e: E) -> (y: E)", "y = e", "end", "main f")
        other = read("sort D = A | B", "node g(d: D) -> (y: D)", "y = d", "end", "main g")
        turned = read("sort E = B | A", "node f(e: E) -> (y: E)", "y = e", "end", "main f")
        for word in ("same", "apart"):
            self.sound(word, NUMBERS, OTHER)
            self.sound(word, named, other)
            self.unsound(word, named, turned)
            self.unsound(word, NUMBERS, LATE)
            self.unsound(word, LATE, NUMBERS)
            self.unsound(word, LATE, RING)
            self.unsound(word, RING, LATE)
            self.unsound(word, LATE, None)
        states = ((((), ()), ((), ())),)
        self.assertIs(check(("same", named, other), states), True)
        self.assertIs(check(("apart", named, other), (("A",),)), False)

    def test_step_machines(self):
        machine = finished(LATE)
        for word in ("carries", "strays"):
            self.sound(word, LATE, machine)
            self.sound(word, LATE, finished(FAULTY))
            for other in (None, (), machine[0], (machine[0], machine[0]), finished(read("node f() -> (y: bool)", "y = true", "end", "main f")),
                          finished(read("node f(x: bool) -> (y: bool, z: bool)", "y = x", "z = x", "end", "main f")),
                          (("m", ("x",), ("y",), (), (), (("set", "y", ("add",)),)),)):
                self.unsound(word, LATE, other)
            self.unsound(word, RING, machine)
            self.unsound(word, PROGRAM, machine)

    def test_any_values(self):
        statements = [("clocked", HALF, "half"), ("ring", RING, "f"), ("sound", LATE), ("breaks", LATE, NEVER), ("same", NUMBERS, OTHER),
                      ("strays", ZERO, finished(NUMBERS))]
        for value in list(ODD_VALUES) + [nested_value(100)]:
            self.assertIs(is_sound(value), False)
            self.assertIs(check(value, value), False)
        for statement in statements:
            self.sound(*statement)
            for value in spoilt_plainly(statement):
                self.assertIs(type(is_sound(value)), bool)
                self.assertIs(type(check(value, ((F,),))), bool)


class OppositesTest(unittest.TestCase):
    """[11.7]: of two opposite statements the program itself tells one certificate, and no other value will do for both."""

    def test_both_ways(self):
        certificates = [(), ((),), ((F,),), ((T,), (F,)), ((F,), (T,)), (((), ()),), ((((),), ()),), tuple(explored(LATE, 10)[1])]
        certificates += [tuple(explored(FAULTY, 10)[1]), verdict(LATE, NEVER, 10)[1]]
        for statement in (("sound", LATE), ("sound", FAULTY), ("holds", LATE, NEVER), ("holds", LATE, late_claim("ok = true")),
                          ("same", LATE, FAULTY), ("same", LATE, LATE), ("carries", LATE, finished(FAULTY)), ("carries", LATE, finished(LATE))):
            told = [any(check(one, value) for value in certificates) for one in (statement, opposite(statement))]
            self.assertNotEqual(told, [T, T])


if __name__ == "__main__":
    unittest.main()
