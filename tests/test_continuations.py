"""Programs that notice that an entry was forgotten, beside the slow machine."""

import copy
import itertools
import string
import unittest

from samples import HUB, LINE, LONE, RING, TWIN, changed, odd_values, ring_world
from slow import (ALIKE, NAMES, TREE, WIDE, SlowMachine, chances, drawn_program, drawn_step, machine_worlds,
                  quiet_worlds)
from test_steps import state
from wraptrails.continuations import continuation, shows_continuation
from wraptrails.errors import NoEntry, NotNeeded
from wraptrails.machines import Machine
from wraptrails.programs import is_program

AB = ("p", "a", "b")
IN_B = ("p", "a", 0, (), "b")
IN_C = ("q", "b", 0, (AB,), "c")
# a, then a zone of four regions in a row, then f.
ZONE = (tuple("abcdef"), (
    ("o", ("b", "c"), "open"), ("p", ("a", "b"), "wrap"), ("q", ("e", "f"), "wrap"), ("r", ("c", "d"), "open"),
    ("s", ("d", "e"), "open")))
# In c, x has a wrapper of q of the wrapper of p, which no variable and no field has any more.
PASSED_ON = (("enter", "b", "x", "p", "a"), ("put", "b", "root", "f", "x"), ("enter", "c", "l", "q", "b"),
             ("get", "c", "l", "f", "x"), ("drop", "b", "x"), ("put", "b", "root", "f", "x"))


def made(world, *program):
    machine = Machine(world)
    machine.run(program)
    return machine


def slow_shows(slow, entry, value):
    """Whether the slow machine answers otherwise when it has forgotten the entry."""
    if not is_program(slow.world, value):
        return False
    one, other = copy.deepcopy(slow), copy.deepcopy(slow)
    other.forget(entry)
    return [one.do(step) for step in value] != [other.do(step) for step in value]


def drawn_machines(seed, count, worlds, length, revokes=0):
    """Machines and slow machines after drawn programs, with collects on the way."""
    for world in worlds:
        for chance in chances(seed, count):
            machine, slow = Machine(world), SlowMachine(world)
            for _ in range(length):
                step = drawn_step(chance, slow, revokes=revokes)
                machine.do(step)
                slow.do(step)
                if chance.random() < 0.05:
                    machine.collect()
                    slow.collect()
            yield machine, slow


class Continuations(unittest.TestCase):
    def check(self, machine, entry):
        before = state(machine)
        program = continuation(machine, entry)
        self.assertTrue(is_program(machine.own_world, program))
        self.assertEqual(continuation(machine, entry), program)
        self.assertIs(shows_continuation(machine, entry, program), True)
        one, other = machine.copied(), machine.copied()
        other.forget(entry)
        self.assertNotEqual(one.run(program), other.run(program))
        self.assertEqual(state(machine), before)
        return program

    def check_all(self, machine):
        """Check the continuations of all needed entries, and that there are none of the others."""
        needed = machine.needed()
        for entry in needed:
            self.check(machine, entry)
        for entry in set(machine.entries()) - set(needed):
            with self.assertRaises(NotNeeded):
                continuation(machine, entry)
        return len(needed)

    def test_drawn_programs(self):
        lengths = []
        for machine, slow in drawn_machines(100, 5, [*machine_worlds(), ZONE], 70):
            for entry in machine.needed():
                program = self.check(machine, entry)
                self.assertTrue(slow_shows(slow, entry, program))
                lengths.append(len(program))
        self.assertGreater(len(lengths), 500)
        self.assertGreater(max(lengths), 12)

    def test_drawn_programs_with_revoked_gateways(self):
        seen = 0
        for machine, slow in drawn_machines(101, 16, [*machine_worlds(), ZONE], 70, revokes=2):
            seen += self.check_all(machine) if machine.revoked() else 0
            for entry in machine.needed()[:2]:
                self.assertTrue(slow_shows(slow, entry, continuation(machine, entry)))
        self.assertGreater(seen, 300)

    def test_worlds_without_noticed_gateways(self):
        self.assertGreater(sum(self.check_all(machine) for machine, _ in drawn_machines(102, 2, quiet_worlds(), 60)), 300)

    def test_in_a_variable(self):
        program = self.check(made(LINE, ("enter", "b", "x", "p", "a")), IN_B)
        self.assertEqual([step[0] for step in program], ["enter", "put", "get", "same"])

    def test_in_another_region_of_the_zone(self):
        steps = [("enter", "b", "x", "p", "a")]
        for one, gateway, other in (("b", "o", "c"), ("c", "r", "d"), ("d", "s", "e")):
            steps += [("put", one, "root", "f", "x"), ("drop", one, "x"), ("enter", other, "l", gateway, one),
                      ("get", other, "l", "f", "x"), ("put", one, "root", "f", "x"), ("drop", other, "l")]
            machine = made(ZONE, *steps)
            self.assertEqual(machine.value(other, "x"), ("object", 0, (AB,)))
            self.assertEqual(machine.needed(), (IN_B,))
            self.check(machine, IN_B)
        # The wrapper of q has the wrapper of p as its target, three regions away from it.
        machine.run((("put", "e", "root", "f", "x"), ("enter", "f", "l", "q", "e"), ("get", "f", "l", "f", "x"),
                     ("drop", "e", "x"), ("put", "e", "root", "f", "x"), ("drop", "f", "l")))
        self.assertEqual(machine.needed(), (IN_B, ("q", "e", 0, (AB,), "f")))
        self.assertEqual(self.check_all(machine), 2)

    def test_in_a_field(self):
        machine = made(LINE, ("enter", "b", "x", "p", "a"), ("new", "b", "y"), ("put", "b", "y", "root", "x"),
                       ("put", "b", "root", "f", "y"), ("drop", "b", "x"), ("drop", "b", "y"))
        self.assertEqual(machine.needed(), (IN_B,))
        self.check(machine, IN_B)

    def test_in_a_field_of_a_wrapped_object(self):
        # c has a wrapper of an object of b that alone holds the wrapper of a's root.
        machine = made(LINE, ("enter", "b", "x", "p", "a"), ("new", "b", "y"), ("put", "b", "y", "f", "x"),
                       ("put", "b", "root", "f", "y"), ("enter", "c", "l", "q", "b"), ("get", "c", "l", "f", "x"),
                       ("drop", "b", "x"), ("drop", "b", "y"), ("put", "b", "root", "f", "x"), ("drop", "c", "l"))
        self.assertEqual(machine.needed(), (IN_B, ("q", "b", 3, (), "c")))
        self.assertEqual(self.check_all(machine), 2)
        machine.do(("revoke", "q"))
        self.assertEqual(machine.needed(), ())

    def test_as_a_target(self):
        machine = made(LINE, *PASSED_ON, ("drop", "c", "l"))
        self.assertEqual(machine.needed(), (IN_B, IN_C))
        self.assertEqual(self.check_all(machine), 2)

    def test_as_a_target_of_a_revoked_gateway(self):
        machine = made(LINE, *PASSED_ON, ("drop", "c", "l"))
        outer, inner = machine.copied(), machine
        outer.do(("revoke", "q"))
        self.assertEqual((outer.needed(), self.check_all(outer)), ((), 0))
        # The wrapper of q is still needed where its target's gateway is revoked.
        inner.do(("revoke", "p"))
        self.assertEqual((inner.needed(), self.check_all(inner)), ((IN_C,), 1))

    def test_the_root_itself_and_another_object(self):
        machine = made(HUB, ("enter", "b", "x", "h", "a"), ("new", "a", "y"), ("put", "a", "root", "f", "y"),
                       ("get", "b", "x", "f", "z"), ("enter", "c", "x", "h", "a"), ("get", "c", "x", "f", "z"))
        self.assertEqual(len(machine.needed()), 4)
        self.assertEqual(self.check_all(machine), 4)

    def test_long_trails(self):
        # Round and round: a wrapper of a wrapper of a wrapper.
        world = ring_world(3, ("wrap",))
        steps = [("enter", "b", "x", "ga", "a")]
        for at in range(60):
            before, behind, gateway = "bca"[at % 3], "cab"[at % 3], ("gb", "gc", "ga")[at % 3]
            steps += [("put", before, "root", "f", "x"), ("enter", behind, "l", gateway, before), ("get", behind, "l", "f", "x"),
                      ("drop", before, "x"), ("put", before, "root", "f", "x"), ("drop", behind, "l")]
        machine = made(world, *steps)
        self.assertEqual(len(machine.needed()), 61)
        for entry in machine.needed()[::6]:
            self.check(machine, entry)

    def test_after_continuations(self):
        for machine, _ in drawn_machines(103, 1, machine_worlds(), 50):
            for _ in range(4):
                for entry in machine.needed()[:3]:
                    machine.run(self.check(machine, entry))

    def test_one_after_another(self):
        machine = made(LINE, ("enter", "b", "x", "p", "a"))
        for _ in range(60):
            machine.run(self.check(machine, IN_B))


class ShortNames(unittest.TestCase):
    """Programs that leave no short name free, so that a name chosen without care spoils something."""

    def check(self, world, steps):
        self.assertLessEqual(len(steps), 600)
        machine = made(world, *steps)
        entries = machine.needed()
        for entry in entries:
            program = continuation(machine, entry)
            self.assertTrue(is_program(world, program))
            self.assertIs(shows_continuation(machine, entry, program), True)
        return entries

    def test_chain_through_fields_of_one_root(self):
        # Each field of b's root holds an object with a field of each name; one of them has the wrapper.
        letters = [name for name in string.ascii_lowercase if name != "x"]
        for last in ("a", "f", "z", "aa"):
            steps = [("enter", "b", "x", "p", "a")]
            for name in letters + ["aa"]:
                steps += [("new", "b", name), ("put", "b", "root", name, name), ("number", "c", name, 1), ("number", "a", name, 1)]
                steps += [("put", "b", name, name, "root")]
            steps += [("put", "b", last, last, "x")]
            steps += [("drop", "b", name) for name in letters + ["x", "aa"]]
            self.assertEqual(self.check(LINE, tuple(steps)), (IN_B,))

    def test_all_variables_and_fields(self):
        names = [*string.ascii_lowercase, *(one + other for one, other in itertools.product("abc", string.ascii_lowercase))]
        steps = [("enter", "b", "x", "p", "a")]
        for name in names:
            steps += [("number", region, name, 1) for region in "bc" if (region, name) != ("b", "x")]
            steps += [("put", "b", "root", name, "x"), ("put", "c", "root", name, "root")]
        self.assertEqual(self.check(LINE, tuple(steps)), (IN_B,))

    def test_fields_of_the_roots_on_the_way(self):
        # The chain leads back to b's root, one field of which has what comes next; every letter in turn.
        for name in string.ascii_lowercase:
            steps = (*PASSED_ON, ("new", "b", "y"), ("put", "b", "root", name, "y"), ("enter", "b", "z", "p", "a"),
                     ("put", "b", "y", name, "z"), ("put", "b", "z", name, "root"), ("drop", "b", "z"), ("drop", "b", "y"))
            self.assertIn(IN_B, self.check(LINE, steps))

    def test_drawn_names(self):
        # Programs drawn with few names, with those names replaced by the shortest ones.
        shorter = dict(zip(("x", "y", "z", "zz", "f", "g"), "abcdba"))
        for world in (LINE, RING, HUB, ZONE, ALIKE, TREE, WIDE):
            for chance in chances(104, 8):
                steps = []
                for kind, *parts in drawn_program(chance, world, 60):
                    cut = {"enter": 2}.get(kind, len(parts))
                    parts = parts[:1] + [shorter.get(part, part) for part in parts[1:cut]] + parts[cut:]
                    steps.append((kind, *parts))
                self.check(world, tuple(steps))


class NotNeededEntries(unittest.TestCase):
    def check(self, machine, value):
        before = state(machine)
        with self.assertRaises(NotNeeded) as caught:
            continuation(machine, value)
        self.assertIs(caught.exception.entry, value)
        self.assertEqual(state(machine), before)

    def test_any_value(self):
        machines = [Machine(LINE), Machine(LONE), made(LINE, ("enter", "b", "x", "p", "a")),
                    made(LINE, ("enter", "b", "x", "p", "a"), ("enter", "a", "x", "p", "b"), ("enter", "c", "x", "q", "b"))]
        for machine in machines:
            for value in odd_values():
                self.check(machine, value)

    def test_entries_with_a_change(self):
        machine = made(LINE, *PASSED_ON, ("enter", "a", "x", "p", "b"), ("enter", "c", "y", "q", "b"))
        known = [repr(entry) for entry in machine.needed()]
        for entry in machine.needed():
            for value in changed(entry):
                if repr(value) not in known:
                    self.check(machine, value)

    def test_booleans(self):
        machine = made(LINE, ("enter", "b", "x", "p", "a"), ("enter", "a", "x", "p", "b"))
        self.assertEqual(machine.needed(), (IN_B, ("p", "b", 1, (), "a")))
        self.check(machine, ("p", "a", False, (), "b"))
        self.check(machine, ("p", "b", True, (), "a"))

    def test_not_needed_any_more(self):
        machine = made(LINE, ("enter", "b", "x", "p", "a"), ("drop", "b", "x"))
        self.assertEqual(machine.entries(), (IN_B,))
        self.check(machine, IN_B)
        machine.collect()
        self.assertEqual(machine.entries(), ())
        self.check(machine, IN_B)
        # It is needed again when it comes back.
        machine.do(("enter", "b", "y", "p", "a"))
        self.assertIs(shows_continuation(machine, IN_B, continuation(machine, IN_B)), True)
        machine.do(("revoke", "p"))
        self.check(machine, IN_B)

    def test_of_another_machine(self):
        one = made(LINE, ("enter", "b", "x", "p", "a"))
        other = made(LINE, ("enter", "a", "x", "p", "b"))
        self.check(one, other.needed()[0])
        self.check(other, one.needed()[0])
        self.check(Machine(RING), one.needed()[0])
        # An equal entry is the same entry.
        again = made(LINE, ("enter", "b", "y", "p", "a"))
        self.assertIs(shows_continuation(again, one.needed()[0], continuation(again, one.needed()[0])), True)


class ShowsContinuation(unittest.TestCase):
    def test_no_entry(self):
        machine = made(LINE, *PASSED_ON)
        known = [repr(entry) for entry in machine.entries()]
        before = state(machine)
        values = odd_values() + [IN_B, continuation(machine, IN_B)]
        for entry in [*odd_values(), *changed(IN_B), ("p", "a", False, (), "b"), ("p", "b", 1, (), "a")]:
            if repr(entry) not in known:
                for value in values[::5] + values[-2:]:
                    with self.assertRaises(NoEntry) as caught:
                        shows_continuation(machine, entry, value)
                    self.assertIs(caught.exception.entry, entry)
        self.assertEqual(state(machine), before)

    def test_collected_and_of_another_machine(self):
        machine = made(LINE, ("enter", "b", "x", "p", "a"), ("drop", "b", "x"))
        self.assertIs(shows_continuation(machine, IN_B, ()), False)
        machine.collect()
        for value in ((), None, (("new", "a", "x"),)):
            with self.assertRaises(NoEntry):
                shows_continuation(machine, IN_B, value)
            with self.assertRaises(NoEntry):
                shows_continuation(Machine(RING), IN_B, value)

    def test_values_that_are_no_program(self):
        machine = made(LINE, ("enter", "b", "x", "p", "a"))
        program = continuation(machine, IN_B)
        for value in odd_values() + [list(program), [list(step) for step in program], (list(program[0]), *program[1:]),
                                     program + ((),), program + (None,), (program,), program[0], *program]:
            self.assertIs(shows_continuation(machine, IN_B, value), False)

    def test_steps_removed_and_changed(self):
        seen = {True: 0, False: 0}
        for machine, slow in drawn_machines(105, 2, (LINE, RING, HUB, ZONE, TWIN, ALIKE), 50):
            for entry in machine.needed()[:3]:
                program = continuation(machine, entry)
                self.assertIs(shows_continuation(machine, entry, program[:-1]), False)
                names = sorted({step[2] for step in program} | {"x", "root"})
                for at, step in enumerate(program):
                    others = [program[:at] + program[at + 1:], program[:at] + (step,) + program[at:]]
                    for place, name in itertools.product(range(1, len(step)), names):
                        others.append(program[:at] + (step[:place] + (name,) + step[place + 1:],) + program[at + 1:])
                    for value in others:
                        expected = slow_shows(slow, entry, value)
                        self.assertIs(shows_continuation(machine, entry, value), expected)
                        seen[expected] += 1
        self.assertGreater(min(seen.values()), 50)

    def test_one_step_too_few(self):
        # Each of the four steps is needed here, since the object is no root.
        machine = made(LINE, ("new", "a", "x"), ("put", "a", "root", "f", "x"), ("enter", "b", "x", "p", "a"),
                       ("get", "b", "x", "f", "x"))
        self.assertEqual(machine.needed(), (("p", "a", 3, (), "b"),))
        program = continuation(machine, machine.needed()[0])
        self.assertEqual(len(program), 4)
        for at in range(len(program)):
            self.assertIs(shows_continuation(machine, machine.needed()[0], program[:at] + program[at + 1:]), False)

    def test_of_another_entry(self):
        for machine, slow in drawn_machines(106, 2, machine_worlds(), 40):
            needed = machine.needed()[:4]
            for one, other in itertools.permutations(needed, 2):
                program = continuation(machine, one)
                self.assertIs(shows_continuation(machine, other, program), slow_shows(slow, other, program))

    def test_no_program_notices_what_is_not_needed(self):
        seen = 0
        for machine, slow in drawn_machines(107, 8, [*machine_worlds(), ZONE], 60, revokes=1):
            rest = sorted(set(machine.entries()) - set(machine.needed()))
            for entry, chance in zip(rest, chances(108, 4)):
                other = copy.deepcopy(slow)
                program = []
                for _ in range(30):
                    program.append(drawn_step(chance, other))
                    other.do(program[-1])
                self.assertIs(shows_continuation(machine, entry, tuple(program)), False)
                seen += 1
        self.assertGreater(seen, 100)

    def test_the_machine_does_not_change(self):
        for machine, _ in drawn_machines(109, 2, machine_worlds(), 40, revokes=1):
            before = state(machine)
            for entry in machine.entries()[:4]:
                shows_continuation(machine, entry, drawn_program(chances(110, 1)[0], machine.own_world, 20, revokes=10))
                shows_continuation(machine, entry, tuple(("drop", region, name) for region in machine.own_world[0]
                                                         for name in NAMES))
            self.assertEqual(state(machine), before)


if __name__ == "__main__":
    unittest.main()
