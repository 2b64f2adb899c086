"""Builders: what they refuse, and what is taken back."""

import itertools
import random
import unittest

from samples import all_cycles, odd_values, table, wraps
from test_detectors import formula
from wraptrails.builders import Builder
from wraptrails.cycles import is_cycle, noticed, shortest_cycle
from wraptrails.detectors import detector, shows_detector, steps_needed
from wraptrails.errors import (BadGateway, BadRegions, ClosesCycle, NothingDone, TakenGateway, TooMany, TrailError,
                               UnknownGateway)
from wraptrails.worlds import is_world

TEN = tuple("abcdefghij")
NAMES = ("p", "q", "r", "s", "t", "u", "v", "w", "x", "y", "z", "pp")


def full_builder(kind="wrap"):
    """A builder with nine wrapping gateways in a line, or with ten open ones over one another."""
    builder = Builder(TEN)
    for at in range(10):
        if kind == "open":
            builder.add("g" + TEN[at], ("a", "b"), kind="open")
        elif at < 9:
            builder.add("g" + TEN[at], (TEN[at], TEN[at + 1]))
    return builder


def closes(world):
    """Whether some cycle has a wrapping gateway, by all cycles."""
    return any(set(wraps(world)) & {name for region, name in cycle} for cycle in all_cycles(world))


def with_gateway(world, gateway):
    return (world[0], tuple(sorted((*world[1], gateway))))


def seen(builder):
    return (builder.world(), len(builder))


class Refusal(unittest.TestCase):
    """Helps to check errors: each keeps the very values, and nothing changes."""

    def refuse(self, builder, error, call, *values, **named):
        before = seen(builder)
        with self.assertRaises(TrailError) as caught:
            getattr(builder, call)(*values, **named)
        self.assertEqual(seen(builder), before)
        self.assertIs(type(caught.exception), error)
        return vars(caught.exception)


class Making(unittest.TestCase):
    def test_regions(self):
        for regions in (("a",), ("a", "b"), TEN, ("aa", "b", "root"), ("abcdefgh",)):
            builder = Builder(regions)
            self.assertEqual(builder.world(), (regions, ()))
            self.assertEqual(len(builder), 0)
            self.assertEqual(Builder(regions=regions).world(), (regions, ()))

    def test_bad_regions(self):
        wrong = [value for value in odd_values() if value not in (("a",), ("a", "b"))]
        wrong += [TEN + ("k",), ("b", "a"), ("a", "a"), ("a", "b", "b"), ("abcdefghi",), ("A",),
                  ("a", ""), ("a", 1), ("a", None), ("a", ("b",)), ("a", ["b"]), ("a", True), ["a", "b"], "ab", ("a", "b "),
                  {"a": "b"}, ("a", {})]
        for value in wrong:
            with self.assertRaises(BadRegions) as caught:
                Builder(value)
            self.assertIs(caught.exception.regions, value)


class Adding(Refusal):
    def test_kinds(self):
        builder = Builder(("a", "b", "c"))
        self.assertIsNone(builder.add("q", ("a", "b")))
        self.assertIsNone(builder.add("r", ("b", "c"), kind="open"))
        self.assertEqual(builder.world()[1], (("q", ("a", "b"), "wrap"), ("r", ("b", "c"), "open")))
        self.assertEqual(len(builder), 2)
        other = Builder(("a", "b", "c"))
        self.assertIsNone(other.add(name="r", members=("b", "c"), kind="open"))
        self.assertIsNone(other.add(kind="wrap", members=("a", "b"), name="q"))
        self.assertEqual(seen(other), seen(builder))

    def test_gateways_are_in_order(self):
        for order in itertools.permutations((("b", ("a", "b")), ("aa", ("b", "c")), ("a", ("c", "d")), ("root", ("d", "e")))):
            builder = Builder(tuple("abcde"))
            for name, ends in order:
                builder.add(name, ends)
                self.assertTrue(is_world(builder.world()))
            self.assertEqual(builder.world()[1], tuple(sorted((name, ends, "wrap") for name, ends in order)))

    def test_kind_by_its_name_only(self):
        builder = Builder(("a", "b"))
        with self.assertRaises(TypeError):
            builder.add("p", ("a", "b"), "wrap")
        self.assertEqual(seen(builder), ((("a", "b"), ()), 0))

    def test_bad_gateways(self):
        wrong = [("p", ("a",)), ("p", ()), ("p", ("b", "a")), ("p", ("a", "a")), ("p", ("a", "z")), ("p", ["a", "b"]),
                 ("p", "ab"), ("p", ("a", "b", None)), ("p", ("a", 1)), ("p", ("a", ["b"])), ("", ("a", "b")),
                 ("P", ("a", "b")), ("abcdefghi", ("a", "b")), (("p",), ("a", "b")), (["p"], ("a", "b")), (True, ("a", "b"))]
        kinds = ["", "Wrap", "wraps", "opened", None, True, 0, ("wrap",), ["open"], {}]
        # Also where another error could be raised: the name is taken, there are ten, or a cycle is closed.
        small = Builder(("a", "b"))
        small.add("p", ("a", "b"))
        for builder in (Builder(("a", "b", "c")), small, full_builder("open"), full_builder()):
            for name, ends in wrong:
                for kind in ("wrap", "open", "none"):
                    kept = self.refuse(builder, BadGateway, "add", name, ends, kind=kind)
                    self.assertEqual(list(kept), ["name", "members", "kind"])
                    self.assertIs(kept["name"], name)
                    self.assertIs(kept["members"], ends)
                    self.assertIs(kept["kind"], kind)
            for kind in kinds:
                self.assertIs(self.refuse(builder, BadGateway, "add", "p", ("a", "b"), kind=kind)["kind"], kind)
                self.assertIs(self.refuse(builder, BadGateway, "add", kind=kind, name="p", members=("a", "b"))["kind"], kind)

    def test_any_values(self):
        builder = Builder(("a", "b"))
        for value in odd_values():
            if value not in ("a", "b", "p", "q", "wrap", "open", "root"):
                self.assertIs(self.refuse(builder, BadGateway, "add", value, ("a", "b"))["name"], value)
            if value != ("a", "b"):
                self.assertIs(self.refuse(builder, BadGateway, "add", "p", value)["members"], value)
                self.assertIs(self.refuse(builder, BadGateway, "add", name="p", members=value)["kind"], "wrap")
            if value not in ("wrap", "open"):
                self.assertIs(self.refuse(builder, BadGateway, "add", "p", ("a", "b"), kind=value)["kind"], value)
            self.assertEqual(len(self.refuse(builder, BadGateway, "add", value, value, kind=value)), 3)

    def test_taken(self):
        # Also where there are ten already, and where a cycle would be closed.
        for builder in (full_builder(), full_builder("open")):
            for name in table(builder.world()):
                for ends, kind in ((("a", "b"), "wrap"), (("a", "j"), "open"), (TEN, "wrap")):
                    self.assertEqual(self.refuse(builder, TakenGateway, "add", name, ends, kind=kind), {"name": name})

    def test_too_many(self):
        builder = full_builder("open")
        self.assertEqual(len(builder.world()[1]), 10)
        # A wrapping gateway between these two would close a cycle, one between others would not.
        for ends in (("a", "b"), ("c", "d"), TEN):
            for kind in ("wrap", "open"):
                self.assertEqual(self.refuse(builder, TooMany, "add", "new", ends, kind=kind), {"count": 11})
        builder.remove("ga")
        self.refuse(builder, ClosesCycle, "add", "new", ("a", "b"))
        self.assertIsNone(builder.add("new", ("c", "d")))
        self.assertEqual(self.refuse(builder, TooMany, "add", "newer", ("c", "d")), {"count": 11})

    def test_closes_a_cycle(self):
        builder = full_builder()
        for one, other in itertools.combinations(TEN, 2):
            for kind in ("wrap", "open"):
                larger = with_gateway(builder.world(), ("new", (one, other), kind))
                kept = self.refuse(builder, ClosesCycle, "add", "new", (one, other), kind=kind)
                self.assertEqual(kept, {"cycle": shortest_cycle(larger)})
                self.assertEqual(len(kept["cycle"]), TEN.index(other) - TEN.index(one) + 1)
                self.assertTrue(is_cycle(larger, kept["cycle"]))

    def test_a_shorter_cycle_elsewhere(self):
        # The new gateway lies on two cycles; the shorter one is kept. A cycle of open gateways alone is none of them.
        builder = Builder(tuple("abcde"))
        for name, ends, kind in (("o", ("a", "b"), "open"), ("p", ("a", "b"), "open"), ("q", ("b", "c"), "wrap"),
                                 ("r", ("c", "d"), "open"), ("s", ("d", "e"), "open")):
            builder.add(name, ends, kind=kind)
        kept = self.refuse(builder, ClosesCycle, "add", "z", ("a", "d", "e"), kind="open")
        self.assertEqual(len(kept["cycle"]), 4)
        self.assertIn("q", [name for region, name in kept["cycle"]])

    def test_open_cycles(self):
        builder = Builder(("a", "b", "c"))
        for name, ends in (("p", ("a", "b")), ("q", ("b", "c")), ("r", ("a", "c")), ("s", ("a", "b", "c")), ("t", ("a", "c"))):
            self.assertIsNone(builder.add(name, ends, kind="open"))
        self.assertEqual(len(builder.world()[1]), 5)
        self.refuse(builder, ClosesCycle, "add", "u", ("a", "b"))
        self.refuse(builder, ClosesCycle, "add", "u", ("a", "b", "c"))

    def test_an_open_gateway_closes_a_cycle(self):
        builder = Builder(("a", "b", "c"))
        builder.add("p", ("a", "b"), kind="open")
        builder.add("q", ("b", "c"))
        kept = self.refuse(builder, ClosesCycle, "add", "r", ("a", "c"), kind="open")
        self.assertEqual(sorted(name for region, name in kept["cycle"]), ["p", "q", "r"])
        builder.remove("q")
        self.assertIsNone(builder.add("r", ("a", "c"), kind="open"))


class Removing(Refusal):
    def test_any_value(self):
        builder = Builder(("a", "b", "c"))
        for value in odd_values():
            self.assertIs(self.refuse(builder, UnknownGateway, "remove", value)["name"], value)
        builder.add("p", ("a", "b"))
        for value in odd_values():
            if value != "p":
                self.assertIs(self.refuse(builder, UnknownGateway, "remove", value)["name"], value)
        self.assertIsNone(builder.remove("p"))
        self.refuse(builder, UnknownGateway, "remove", "p")
        self.assertEqual(seen(builder), ((("a", "b", "c"), ()), 2))

    def test_each(self):
        for name in table(full_builder().world()):
            builder = full_builder()
            left = tuple(gateway for gateway in builder.world()[1] if gateway[0] != name)
            self.assertIsNone(builder.remove(name=name))
            self.assertEqual(seen(builder), ((TEN, left), 10))

    def test_makes_room(self):
        builder = full_builder()
        builder.remove("gc")
        self.assertIsNone(builder.add("new", ("a", "j")))
        self.refuse(builder, ClosesCycle, "add", "gc", ("c", "d"))


class TakingBack(Refusal):
    def test_nothing_done(self):
        builder = Builder(("a", "b"))
        self.assertEqual(self.refuse(builder, NothingDone, "back"), {})
        builder.add("p", ("a", "b"))
        self.assertIsNone(builder.back())
        self.assertEqual(self.refuse(builder, NothingDone, "back"), {})

    def test_refused_calls_are_not_taken_back(self):
        builder = Builder(("a", "b"))
        builder.add("p", ("a", "b"))
        self.refuse(builder, ClosesCycle, "add", "q", ("a", "b"))
        self.refuse(builder, TakenGateway, "add", "p", ("a", "b"))
        self.refuse(builder, BadGateway, "add", "p", ("a", "c"))
        self.refuse(builder, UnknownGateway, "remove", "q")
        builder.back()
        self.assertEqual(seen(builder), ((("a", "b"), ()), 0))

    def test_taken_back_calls_are_no_calls(self):
        builder = Builder(("a", "b", "c"))
        builder.add("p", ("a", "b"))
        builder.add("q", ("b", "c"))
        builder.back()
        builder.remove("p")
        builder.back()
        self.assertEqual(seen(builder), ((("a", "b", "c"), (("p", ("a", "b"), "wrap"),)), 1))
        # A name and a place that were taken back are free.
        builder.add("q", ("a", "c"))
        builder.back()
        builder.back()
        self.refuse(builder, NothingDone, "back")

    def test_back_of_a_remove(self):
        builder = full_builder()
        world = builder.world()
        for name in table(world):
            builder.remove(name)
        self.assertEqual(seen(builder), ((TEN, ()), 18))
        for _ in range(9):
            builder.back()
        self.assertEqual(seen(builder), (world, 9))

    def test_two_builders(self):
        regions = ("a", "b")
        one, other = Builder(regions), Builder(regions)
        one.add("p", ("a", "b"))
        self.assertEqual(seen(other), ((("a", "b"), ()), 0))

    def test_worlds_that_were_returned_stay(self):
        builder = Builder(("a", "b"))
        first = builder.world()
        builder.add("p", ("a", "b"))
        second = builder.world()
        builder.remove("p")
        self.assertEqual((first, second), ((("a", "b"), ()), (("a", "b"), (("p", ("a", "b"), "wrap"),))))


class DrawnCalls(Refusal):
    def expected(self, world, gateway):
        """The error that an add of a gateway must raise, and what it keeps, or None."""
        if gateway[0] in table(world):
            return TakenGateway, {"name": gateway[0]}
        if len(world[1]) == 10:
            return TooMany, {"count": 11}
        larger = with_gateway(world, gateway)
        if closes(larger):
            return ClosesCycle, {"cycle": shortest_cycle(larger)}
        return None

    def draw(self, chance, regions, kinds, longest):
        """Perform drawn calls beside a list of all worlds so far; return how often each outcome occurred."""
        builder = Builder(regions)
        past = [(regions, ())]
        found = {}
        for _ in range(longest):
            call = chance.choices(("add", "remove", "back"), weights=(12, 3, 2))[0]
            if call == "add":
                ends = tuple(sorted(chance.sample(regions, chance.choice((2, 2, 2, min(3, len(regions)))))))
                gateway = (chance.choice(NAMES), ends, chance.choice(kinds))
                error = self.expected(past[-1], gateway)
                if error is None:
                    self.assertIsNone(builder.add(gateway[0], ends, kind=gateway[2]))
                    past.append(with_gateway(past[-1], gateway))
                else:
                    kept = self.refuse(builder, error[0], "add", gateway[0], ends, kind=gateway[2])
                    self.assertEqual(kept, error[1])
                    call = error[0]
                    if call is ClosesCycle:
                        self.check_refused(with_gateway(past[-1], gateway), kept["cycle"])
            elif call == "remove":
                name = chance.choice(NAMES)
                if name in table(past[-1]):
                    self.assertIsNone(builder.remove(name))
                    past.append((regions, tuple(gateway for gateway in past[-1][1] if gateway[0] != name)))
                else:
                    self.assertEqual(self.refuse(builder, UnknownGateway, "remove", name), {"name": name})
            elif len(past) > 1:
                self.assertIsNone(builder.back())
                past.pop()
            else:
                self.refuse(builder, NothingDone, "back")
            found[call] = found.get(call, 0) + 1
            self.assertEqual(seen(builder), (past[-1], len(past) - 1))
            self.assertTrue(is_world(builder.world()))
            self.assertEqual((noticed(builder.world()), steps_needed(builder.world())), ((), None))
        while len(past) > 1:
            builder.back()
            past.pop()
            self.assertEqual(seen(builder), (past[-1], len(past) - 1))
        self.refuse(builder, NothingDone, "back")
        return found

    def check_refused(self, larger, cycle):
        """What is refused is what a detector shows in the larger world."""
        program = detector(larger)
        self.assertIs(shows_detector(larger, program), True)
        self.assertEqual(len(program), formula(len(cycle)))

    def test_drawn_calls(self):
        total = {}
        for seed in range(60):
            chance = random.Random(7000 + seed)
            regions = TEN[:chance.randint(2, 10)]
            kinds = chance.choice((("wrap", "open"), ("wrap",), ("open", "open", "open", "open", "wrap"), ("open",)))
            for outcome, count in self.draw(chance, regions, kinds, 60).items():
                total[outcome] = total.get(outcome, 0) + count
        for outcome in ("add", "remove", "back", TakenGateway, TooMany, ClosesCycle):
            self.assertGreater(total.get(outcome, 0), 10, outcome)

    def test_six_hundred_calls(self):
        builder = Builder(("a", "b", "c"))
        for _ in range(150):
            builder.add("p", ("a", "b"))
            builder.add("q", ("b", "c"), kind="open")
            builder.remove("p")
            builder.remove("q")
        self.assertEqual(len(builder), 600)
        for left in range(599, -1, -1):
            self.assertIsNone(builder.back())
            self.assertEqual(len(builder), left)
        self.assertEqual(builder.world(), (("a", "b", "c"), ()))


if __name__ == "__main__":
    unittest.main()
