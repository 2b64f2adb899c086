"""The shortest programs that notice that gateways wrap, beside all short programs and the slow machine."""

import itertools
import unittest

from samples import (HUB, LINE, LONE, NAMESAKES, RING, TWIN, all_cycles, all_worlds, changed, fixed_worlds, full_world,
                     odd_values, random_worlds, ring_world, table, wraps)
from slow import ALIKE, TREE, WIDE, SlowMachine, chances, drawn_program, machine_worlds, quiet_worlds, tree_world
from wraptrails.cycles import quiet
from wraptrails.detectors import detector, shows_detector, steps_needed
from wraptrails.differences import differences
from wraptrails.errors import TrailError, Unnoticed
from wraptrails.programs import has_revoke, is_program
from wraptrails.trails import inward, outward
from wraptrails.worlds import is_world, plain, with_open

# A ring of three hubs, each with members beside it; a ring of two hubs; a ring of a hub and open gateways.
HUB_RING = (tuple("abcdef"), (
    ("h", ("a", "b", "d"), "wrap"), ("i", ("b", "c", "e"), "open"), ("j", ("a", "c", "f"), "wrap")))
HUB_PAIR = (tuple("abcd"), (("h", ("a", "b", "c"), "wrap"), ("i", ("b", "c", "d"), "wrap")))
HUB_AND_OPEN = (tuple("abcde"), (
    ("h", ("a", "c", "e"), "wrap"), ("p", ("a", "b"), "open"), ("q", ("b", "d"), "open"), ("r", ("c", "d"), "open")))
# A ring of open gateways beside one with a wrapping one that is longer.
LONGER = (tuple("abcd"), (
    ("m", ("a", "b"), "open"), ("n", ("a", "b"), "open"), ("o", ("b", "c"), "open"), ("p", ("c", "d"), "wrap"),
    ("q", ("a", "d"), "open")))
CHORDS = [
    (tuple("abcde"), (("p", ("a", "b"), "wrap"), ("q", ("b", "c"), "wrap"), ("r", ("c", "d"), "wrap"),
                      ("s", ("d", "e"), "wrap"), ("t", ("a", "e"), "wrap"), ("u", ("b", "e"), chord)))
    for chord in ("wrap", "open")]
# The chord makes a shorter ring, but only of open gateways.
CHORDS.append((tuple("abcde"), (
    ("p", ("a", "b"), "open"), ("q", ("b", "c"), "wrap"), ("r", ("c", "d"), "open"), ("s", ("d", "e"), "open"),
    ("t", ("a", "e"), "open"), ("u", ("b", "e"), "open"))))


def formula(gateways):
    """What the document says, with ceil written out."""
    return gateways + 2 * -(-(gateways - 2) // 2) + 1


def slow_girth(world):
    return min([len(cycle) for cycle in all_cycles(world) if set(wraps(world)) & {name for region, name in cycle}],
               default=None)


def slow_answers(world, program):
    machine = SlowMachine(world)
    return [machine.do(step) for step in program]


def slow_shows(world, value):
    if not is_program(world, value) or any(step[0] == "revoke" for step in value):
        return False
    return slow_answers(world, value) != slow_answers(plain(world), value)


def renamed(world, regions, gateways):
    """The world with other names, in the order of those."""
    region = dict(zip(world[0], regions))
    name = dict(zip(table(world), gateways))
    return (tuple(sorted(region[old] for old in world[0])),
            tuple(sorted((name[old], tuple(sorted(region[end] for end in ends)), kind) for old, ends, kind in world[1])))


def rings():
    for size in range(2, 11):
        for at in range(size):
            yield ring_world(size, ("open",) * at + ("wrap",) + ("open",) * (size - at - 1))
            yield ring_world(size, ("wrap",) * at + ("open",) + ("wrap",) * (size - at - 1))
        yield ring_world(size, ("wrap",))
    for size in range(2, 7):
        for kinds in itertools.product(("wrap", "open"), repeat=size):
            if "wrap" in kinds:
                yield ring_world(size, kinds)


def noticed_worlds():
    hubs = [HUB_RING, HUB_PAIR, HUB_AND_OPEN, LONGER, WIDE, ALIKE, NAMESAKES, TWIN, RING]
    return [*rings(), *hubs, *CHORDS, full_world(("wrap", "open")), full_world(("open",) * 9 + ("wrap",))]


def known_from(world, facts):
    """All that one more step can add to what is known.

    ("has", region, object, trail) is the value of a variable, ("holds", object, object, trail) that of a field. Names
    do not matter, since a program without a revoke step gains nothing by assigning a name twice.
    """
    has = sorted(fact for fact in facts if fact[0] == "has")
    holds = sorted(fact for fact in facts if fact[0] == "holds")
    made = len(world[0]) + len({number for _, _, number, _ in has + holds if number >= len(world[0])})
    for region in world[0]:
        yield ("has", region, made, ())
    for name, ends, kind in world[1]:
        for end, start in itertools.permutations(ends, 2):
            yield ("has", end, world[0].index(start), ((name, start, end),) if kind == "wrap" else ())
    for _, region, number, trail in has:
        for _, other, value, values in has:
            if other == region:
                yield ("holds", number, value, inward(values, trail))
        for _, holder, value, values in holds:
            if holder == number:
                yield ("has", region, value, outward(values, trail))


def is_noticed(facts):
    """Whether a region has two references to one object with different trails."""
    seen = [fact[1:3] for fact in facts if fact[0] == "has"]
    return len(set(seen)) < len(seen)


def fewest_steps(world, most):
    """The fewest steps of a program that notices, by all programs with at most this many steps, or None."""
    level = {frozenset(("has", region, at, ()) for at, region in enumerate(world[0]))}
    for steps in range(1, most + 1):
        if any(is_noticed(facts) for facts in level):
            return steps
        if steps < most:
            level = {facts | {fact} for facts in level for fact in set(known_from(world, facts)) - facts}
    return None


class StepsNeeded(unittest.TestCase):
    def test_formula(self):
        self.assertEqual([formula(gateways) for gateways in range(2, 11)], [3, 6, 7, 10, 11, 14, 15, 18, 19])

    def test_rings(self):
        for world in rings():
            self.assertEqual(steps_needed(world), formula(len(world[0])))

    def test_worlds(self):
        for world in all_worlds() + [HUB_RING, HUB_PAIR, HUB_AND_OPEN, LONGER, WIDE, ALIKE, TREE] + CHORDS:
            gateways = slow_girth(world)
            self.assertEqual(steps_needed(world), None if gateways is None else formula(gateways))

    def test_some_worlds(self):
        for world, steps in ((RING, 6), (TWIN, 3), (HUB_RING, 6), (HUB_PAIR, 3), (HUB_AND_OPEN, 7), (LONGER, 7), (WIDE, 3),
                             (CHORDS[0], 6), (CHORDS[1], 6), (CHORDS[2], 7), (full_world(("wrap",)), 3), (LINE, None),
                             (LONE, None), (HUB, None), (full_world(("open",)), None)):
            self.assertEqual(steps_needed(world), steps)

    def test_no_fewer_steps(self):
        # In worlds small enough to try everything.
        small = [TWIN, RING, NAMESAKES, HUB_PAIR, ring_world(2, ("wrap",)), ring_world(3, ("open", "open", "wrap"))]
        small += [world for world in random_worlds(80, 200, 3, 4, 3) if steps_needed(world) is not None]
        for world in small:
            self.assertEqual(fewest_steps(world, 6), steps_needed(world), world)
        for kinds in (("wrap",), ("wrap", "open", "wrap", "open"), ("open", "open", "open", "wrap")):
            self.assertIsNone(fewest_steps(ring_world(4, kinds), 6))
        self.assertIsNone(fewest_steps(HUB_RING, 5))

    def test_no_steps_suffice(self):
        for world in [LINE, HUB, LONE] + [world for world in random_worlds(81, 60, 3, 3, 3) if steps_needed(world) is None]:
            self.assertIsNone(fewest_steps(world, 5), world)


class Detectors(unittest.TestCase):
    def check(self, world):
        self.assertTrue(is_world(world))
        program = detector(world)
        self.assertTrue(is_program(world, program))
        self.assertFalse(has_revoke(program))
        self.assertEqual(len(program), steps_needed(world))
        self.assertEqual(differences(world, program), (len(program) - 1,))
        here, there = slow_answers(world, program), slow_answers(plain(world), program)
        self.assertEqual(here[:-1], there[:-1])
        self.assertEqual((here[-1], there[-1]), (False, True))
        self.assertIs(shows_detector(world, program), True)

    def test_worlds(self):
        for world in noticed_worlds():
            self.check(world)

    def test_drawn_worlds(self):
        drawn = all_worlds() + machine_worlds() + random_worlds(82, 100, 10, 10, 10)
        loud = [world for world in drawn if steps_needed(world) is not None]
        self.assertGreater(len(loud), 150)
        for world in loud:
            self.check(world)

    def test_unnoticed(self):
        trees = [tree_world(chance) for chance in chances(83, 40)]
        for world in [LINE, LONE, HUB, TREE, *quiet_worlds(), *trees, *[plain(world) for world in fixed_worlds()]]:
            self.assertIsNone(steps_needed(world))
            with self.assertRaises(Unnoticed) as caught:
                detector(world)
            self.assertEqual(vars(caught.exception), {})
            self.assertIsInstance(caught.exception, TrailError)

    def test_names(self):
        # Names that begin alike, a region called root, and the names that programs use themselves.
        long = ("a", "aa", "aaa", "aaaa", "aaaaa", "aaaaaa", "aaaaaaa", "aaaaaaaa", "aaaaaaab", "aaaaaab")
        short = ("root", "x", "y", "l", "f", "m", "g", "same", "enter", "wrap")
        for world in noticed_worlds():
            for regions, gateways in ((long, short), (short, long), (short, short), (long[::-1], long)):
                self.check(renamed(world, regions, gateways))

    def test_exactly_the_quiet_gateways_wrap_unnoticed(self):
        for world in fixed_worlds() + random_worlds(84, 40, 4, 4, 3):
            silent = quiet(world)
            names = list(table(world))
            for count in range(min(len(names), 4) + 1):
                for wrapping in itertools.combinations(names, count):
                    some = with_open(world, tuple(name for name in names if name not in wrapping))
                    self.assertEqual(steps_needed(some) is None, set(wrapping) <= set(silent))

    def test_equal_calls(self):
        for world in noticed_worlds():
            self.assertEqual(detector(world), detector(world))


class ShowsDetector(unittest.TestCase):
    def check(self, world, value):
        self.assertIs(shows_detector(world, value), slow_shows(world, value))

    def test_steps_removed_repeated_exchanged(self):
        for world in (RING, TWIN, NAMESAKES, HUB_RING, HUB_AND_OPEN, ALIKE, ring_world(5, ("wrap", "open")), CHORDS[0],
                      ring_world(8, ("open",) * 7 + ("wrap",))):
            program = detector(world)
            for at, step in enumerate(program):
                # One step fewer is too few.
                self.assertIs(shows_detector(world, program[:at] + program[at + 1:]), False)
                self.check(world, program[:at] + (step,) + program[at:])
                self.check(world, program + (step,))
                for other in range(at):
                    moved = list(program)
                    moved[at], moved[other] = moved[other], moved[at]
                    self.check(world, tuple(moved))
            self.assertIs(shows_detector(world, program + program), True)
            self.assertIs(shows_detector(world, program[-1:] + program), True)

    def test_another_part(self):
        for world in (RING, TWIN, HUB_RING, ring_world(4, ("wrap",))):
            program = detector(world)
            parts = {part for step in program for part in step} | {"root", "z", *world[0], *table(world)}
            for at, step in enumerate(program):
                for place, part in itertools.product(range(len(step)), sorted(parts)):
                    self.check(world, program[:at] + (step[:place] + (part,) + step[place + 1:],) + program[at + 1:])

    def test_revoke(self):
        for world in (RING, TWIN, HUB_RING):
            program = detector(world)
            for at, name in itertools.product(range(len(program) + 1), table(world)):
                self.assertIs(shows_detector(world, program[:at] + (("revoke", name),) + program[at:]), False)

    def test_other_programs(self):
        for world in machine_worlds():
            for chance in chances(85, 6):
                self.check(world, drawn_program(chance, world, chance.randint(0, 40), revokes=chance.choice((0, 0, 1))))

    def test_of_another_world(self):
        for world, other in itertools.permutations([RING, TWIN, HUB_RING, ALIKE, LINE, LONE], 2):
            if steps_needed(world) is not None:
                self.check(other, detector(world))
        self.assertIs(shows_detector(plain(RING), detector(RING)), False)

    def test_lists_and_any_values(self):
        for world in (RING, TWIN):
            program = detector(world)
            self.assertIs(shows_detector(world, list(program)), False)
            self.assertIs(shows_detector(world, (list(program[0]),) + program[1:]), False)
            self.assertIs(shows_detector(world, (program,)), False)
            self.assertIs(shows_detector(world, program + ((),)), False)
            for value in changed(program):
                self.check(world, value)
        for world in (LINE, RING, LONE):
            for value in odd_values():
                self.assertIs(shows_detector(world, value), False)


if __name__ == "__main__":
    unittest.main()
