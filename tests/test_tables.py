"""The tables of a machine: entries, needed, collect, forget; and copies of machines."""

import copy
import itertools
import unittest

from samples import HUB, LINE, LONE, RING, TWIN, changed, odd_values
from slow import ALIKE, NAMES, SlowMachine, chances, drawn_program, drawn_step, machine_worlds
from test_steps import AB, BA, BC, BESIDE, CB, state
from wraptrails.errors import NoEntry
from wraptrails.machines import Machine
from wraptrails.trailmachine import TrailMachine

IN_B = ("p", "a", 0, (), "b")
IN_C = ("q", "b", 0, (AB,), "c")
B_IN_C = ("q", "b", 1, (), "c")


def made(world, *program):
    machine = Machine(world)
    machine.run(program)
    return machine


def values(machine, world):
    return [machine.value(region, name) for region, name in itertools.product(world[0], NAMES + ("root",))]


def is_entry(entry, entries):
    """Whether any value is one of the entries, booleans and integers told apart."""
    return any(repr(entry) == repr(other) for other in entries)


class Entries(unittest.TestCase):
    def test_at_first(self):
        for world in machine_worlds():
            machine = Machine(world)
            self.assertEqual((machine.entries(), machine.needed(), machine.collect()), ((), (), 0))

    def test_one_for_each_wrapper(self):
        machine = made(LINE, *BESIDE)
        self.assertEqual(machine.entries(), (IN_B, B_IN_C))
        # The same again makes none.
        machine.run(BESIDE)
        self.assertEqual(machine.entries(), (IN_B, B_IN_C))
        machine.run((("put", "b", "root", "f", "l"), ("get", "c", "l", "f", "x")))
        self.assertEqual(machine.entries(), (IN_B, IN_C, B_IN_C))
        # Coming home makes none.
        machine.run((("put", "b", "l", "f", "l"), ("put", "c", "x", "f", "x"), ("get", "a", "root", "f", "y")))
        self.assertEqual(machine.entries(), (IN_B, IN_C, B_IN_C))

    def test_numbers_and_open_gateways_make_none(self):
        machine = made(TWIN, ("enter", "b", "l", "q", "a"), ("put", "b", "l", "f", "root"), ("get", "a", "root", "f", "x"),
                       ("number", "a", "n", 1), ("put", "a", "x", "f", "n"))
        self.assertEqual(machine.entries(), ())
        machine.run((("enter", "b", "l", "p", "a"), ("number", "b", "n", 7), ("put", "b", "l", "f", "n"), ("put", "b", "l", "g", "x")))
        self.assertEqual(machine.entries(), (IN_B,))

    def test_one_for_each_start_and_each_end(self):
        machine = made(HUB, ("enter", "b", "x", "h", "a"), ("enter", "c", "x", "h", "a"), ("enter", "a", "x", "h", "b"))
        self.assertEqual(machine.entries(), (("h", "a", 0, (), "b"), ("h", "a", 0, (), "c"), ("h", "b", 1, (), "a")))

    def test_on_the_way_through_a_chain(self):
        machine = made(LINE, *BESIDE, ("put", "b", "root", "f", "l"), ("get", "c", "l", "f", "x"), ("put", "c", "x", "f", "root"))
        self.assertEqual(machine.entries(), (IN_B, ("p", "b", 2, (CB,), "a"), IN_C, B_IN_C, ("q", "c", 2, (), "b")))
        # The wrapper in b is needed as the target of the one in a.
        self.assertEqual(machine.needed(), machine.entries())

    def test_the_object_is_an_integer(self):
        for entry in made(LINE, *BESIDE).entries():
            self.assertIs(type(entry[2]), int)

    def test_ascending(self):
        machine = made(ALIKE, ("enter", "root", "x", "open", "a"), ("enter", "baa", "x", "open", "root"),
                       ("enter", "aa", "x", "a", "a"), ("enter", "aab", "x", "aa", "aa"), ("enter", "baa", "y", "open", "a"))
        found = machine.entries()
        self.assertEqual(list(found), sorted(set(found)))
        self.assertEqual(len(found), 5)

    def test_revoked_gateways_keep_theirs(self):
        machine = made(LINE, *BESIDE, ("revoke", "p"))
        self.assertEqual(machine.entries(), (IN_B, B_IN_C))
        self.assertEqual(machine.needed(), (B_IN_C,))
        self.assertEqual(machine.collect(), 1)
        self.assertEqual(machine.entries(), (B_IN_C,))


class Needed(unittest.TestCase):
    def check(self, machine, entries):
        self.assertEqual(machine.needed(), tuple(sorted(entries)))

    def test_variables(self):
        machine = made(LINE, *BESIDE)
        self.check(machine, [IN_B, B_IN_C])
        machine.do(("drop", "b", "l"))
        self.check(machine, [B_IN_C])
        machine.do(("number", "c", "l", 1))
        self.check(machine, [])
        self.assertEqual(machine.entries(), (IN_B, B_IN_C))
        # It is needed again when it is entered again.
        machine.do(BESIDE[0])
        self.check(machine, [IN_B])

    def test_fields(self):
        machine = made(LINE, *BESIDE, ("new", "b", "x"), ("put", "b", "x", "f", "l"), ("drop", "b", "l"))
        self.check(machine, [IN_B, B_IN_C])
        machine.do(("drop", "b", "x"))
        self.check(machine, [B_IN_C])

    def test_fields_of_roots(self):
        machine = made(LINE, *BESIDE, ("put", "b", "root", "f", "l"), ("drop", "b", "l"))
        self.check(machine, [IN_B, B_IN_C])
        machine.do(("put", "b", "root", "f", "none"))
        self.check(machine, [B_IN_C])

    def test_objects_that_only_fields_refer_to(self):
        machine = made(LINE, ("new", "b", "x"), ("put", "b", "root", "f", "x"), ("new", "b", "y"), ("put", "b", "x", "f", "y"),
                       ("enter", "b", "l", "p", "a"), ("put", "b", "y", "f", "l"), ("drop", "b", "x"), ("drop", "b", "y"),
                       ("drop", "b", "l"))
        self.check(machine, [IN_B])
        machine.do(("put", "b", "root", "f", "none"))
        self.check(machine, [])

    def test_objects_in_a_ring(self):
        for kept in (False, True):
            machine = made(LINE, ("new", "b", "x"), ("new", "b", "y"), ("put", "b", "x", "f", "y"), ("put", "b", "y", "f", "x"),
                           ("enter", "b", "l", "p", "a"), ("put", "b", "y", "g", "l"), ("drop", "b", "y"), ("drop", "b", "l"))
            self.check(machine, [IN_B])
            if not kept:
                machine.do(("drop", "b", "x"))
            self.check(machine, [IN_B] if kept else [])
            self.assertEqual(machine.collect(), 0 if kept else 1)

    def test_a_ring_across_gateways(self):
        # The roots of a and b refer to each other.
        machine = made(LINE, ("enter", "b", "x", "p", "a"), ("put", "b", "root", "f", "x"), ("enter", "a", "x", "p", "b"),
                       ("put", "a", "root", "f", "x"), ("drop", "a", "x"), ("drop", "b", "x"))
        self.check(machine, [IN_B, ("p", "b", 1, (), "a")])
        # Two new objects do, which nothing else refers to in the end.
        machine = made(LINE, ("enter", "b", "l", "p", "a"), ("new", "a", "x"), ("put", "a", "root", "f", "x"),
                       ("get", "b", "l", "f", "x"), ("new", "b", "y"), ("put", "b", "y", "f", "x"), ("put", "b", "x", "f", "y"),
                       ("put", "a", "root", "f", "none"), ("drop", "a", "x"), ("drop", "b", "x"), ("drop", "b", "l"))
        self.check(machine, [("p", "a", 3, (), "b"), ("p", "b", 4, (), "a")])
        machine.do(("drop", "b", "y"))
        self.check(machine, [])
        self.assertEqual(machine.collect(), 3)

    def test_targets_of_wrappers(self):
        machine = made(LINE, *BESIDE, ("put", "b", "root", "f", "l"), ("get", "c", "l", "f", "x"), ("drop", "b", "l"),
                       ("put", "b", "root", "f", "none"), ("drop", "c", "l"))
        self.check(machine, [IN_B, IN_C])
        machine.do(("revoke", "q"))
        self.check(machine, [])

    def test_behind_a_revoked_gateway(self):
        program = (*BESIDE, ("put", "b", "root", "f", "l"), ("get", "c", "l", "f", "x"), ("drop", "b", "l"),
                   ("put", "b", "root", "f", "none"), ("drop", "c", "l"))
        # The first gateway is revoked: the wrapper of the second one is still needed.
        machine = made(LINE, *program, ("revoke", "p"))
        self.check(machine, [IN_C])
        self.assertEqual(machine.collect(), 2)
        self.assertEqual(machine.value("c", "x"), ("object", 0, (AB, BC)))

    def test_objects_behind_a_revoked_gateway(self):
        """What the object holds is live only if it is so in another way."""
        program = (("enter", "b", "l", "p", "a"), ("new", "a", "x"), ("put", "a", "root", "f", "x"), ("get", "b", "l", "f", "x"),
                   ("put", "a", "x", "g", "root"), ("put", "b", "x", "f", "root"), ("put", "a", "root", "f", "none"), ("drop", "b", "l"))
        back = ("p", "b", 1, (), "a")
        self.check(made(LINE, *program), [("p", "a", 3, (), "b"), back])
        world = (("a", "b", "c"), (("p", ("a", "b"), "wrap"), ("q", ("a", "c"), "wrap")))
        machine = made(world, ("enter", "a", "l", "q", "c"), ("new", "a", "x"), ("put", "a", "x", "f", "l"), ("drop", "a", "l"),
                       ("put", "a", "root", "f", "x"), ("drop", "a", "x"), ("enter", "b", "l", "p", "a"), ("get", "b", "l", "f", "x"),
                       ("put", "a", "root", "f", "none"))
        self.check(machine, [("p", "a", 0, (), "b"), ("p", "a", 3, (), "b"), ("q", "c", 2, (), "a")])
        machine.do(("revoke", "p"))
        self.check(machine, [])

    def test_copies_do_not_need_more(self):
        machine = made(LINE, *BESIDE, ("drop", "b", "l"))
        self.assertEqual(machine.copied().needed(), machine.needed())


class AgainstSlowAnswers(unittest.TestCase):
    def compare(self, machine, slow):
        self.assertEqual(machine.entries(), slow.entries())
        self.assertEqual(machine.needed(), slow.needed())
        self.assertEqual(values(machine, slow.world), values(slow, slow.world))
        self.assertEqual((machine.object_count(), machine.revoked()), (len(slow.things), tuple(sorted(slow.cut))))

    def test_after_each_step(self):
        dead = deep = 0
        for world, chance in itertools.product(machine_worlds(), chances(10, 2)):
            slow, machine = SlowMachine(world), Machine(world)
            for _ in range(160):
                step = drawn_step(chance, slow, revokes=0.5)
                self.assertEqual(machine.do(step), slow.do(step))
                self.compare(machine, slow)
                self.assertEqual(list(machine.entries()), sorted(set(machine.entries())))
                dead += machine.entries() != machine.needed()
                deep += any(len(entry[3]) > 2 for entry in machine.needed())
        self.assertGreater(dead, 1000)
        self.assertGreater(deep, 500)

    def test_with_collects_at_drawn_moments(self):
        removed = []
        for world, chance in itertools.product(machine_worlds(), chances(11, 3)):
            slow, machine, never = SlowMachine(world), Machine(world), Machine(world)
            for _ in range(120):
                step = drawn_step(chance, slow, revokes=1)
                answer = slow.do(step)
                self.assertEqual((machine.do(step), never.do(step)), (answer, answer))
                if chance.random() < 0.1:
                    stays, before = machine.needed(), values(machine, world)
                    expected = len(machine.entries()) - len(stays)
                    removed.append(machine.collect())
                    self.assertEqual(removed[-1], expected)
                    self.assertIs(type(removed[-1]), int)
                    self.assertEqual(slow.collect(), removed[-1])
                    self.assertEqual((machine.entries(), machine.needed()), (stays, stays))
                    self.assertEqual(machine.collect(), 0)
                    self.assertEqual(values(machine, world), before)
                self.compare(machine, slow)
                self.assertEqual(values(machine, world), values(never, world))
            self.assertEqual(machine.answers(), never.answers())
        self.assertGreater(sum(count > 0 for count in removed), 200)

    def test_with_a_collect_after_every_step(self):
        for world, chance in itertools.product(machine_worlds(), chances(12, 3)):
            program = drawn_program(chance, world, 150, revokes=1)
            often, never = Machine(world), Machine(world)
            for step in program:
                self.assertEqual(often.do(step), never.do(step))
                often.collect()
                self.assertEqual(values(often, world), values(never, world))
                self.assertEqual(often.needed(), never.needed())
                self.assertEqual(often.entries(), never.needed())
                self.assertEqual(often.collect(), 0)
            self.assertEqual((often.answers(), len(often)), (never.answers(), len(program)))

    def test_entries_that_are_not_needed_may_be_forgotten(self):
        """Section 3, (e), one entry at a time: no answer and no value changes."""
        count = 0
        for world, chance in itertools.product(machine_worlds(), chances(13, 3)):
            program = drawn_program(chance, world, 150, revokes=1)
            machine, never = Machine(world), Machine(world)
            for step in program:
                self.assertEqual(machine.do(step), never.do(step))
                idle = sorted(set(machine.entries()) - set(machine.needed()))
                if idle and chance.random() < 0.3:
                    machine.forget(chance.choice(idle))
                    count += 1
                self.assertEqual(values(machine, world), values(never, world))
        self.assertGreater(count, 600)


class Collect(unittest.TestCase):
    def test_what_is_removed_and_what_stays(self):
        machine = made(LINE, *BESIDE, ("put", "b", "root", "f", "l"), ("get", "c", "l", "f", "x"), ("drop", "c", "x"))
        self.assertEqual(machine.collect(), 1)
        self.assertEqual(machine.entries(), (IN_B, B_IN_C))
        self.assertEqual(machine.collect(), 0)
        machine.do(("drop", "c", "l"))
        self.assertEqual(machine.collect(), 1)
        machine.run((("drop", "b", "l"), ("put", "b", "root", "f", "none")))
        self.assertEqual(machine.collect(), 1)
        self.assertEqual(machine.entries(), ())

    def test_a_wrapper_that_is_made_again(self):
        machine = made(LINE, ("enter", "b", "x", "p", "a"), ("drop", "b", "x"))
        self.assertEqual(machine.collect(), 1)
        machine.run((("enter", "b", "x", "p", "a"), ("enter", "b", "y", "p", "a")))
        self.assertIs(machine.do(("same", "b", "x", "y")), True)
        self.assertEqual(machine.entries(), (IN_B,))

    def test_wrappers_of_revoked_gateways(self):
        machine = made(LINE, *BESIDE, ("put", "b", "root", "f", "l"), ("get", "c", "l", "f", "x"), ("revoke", "p"))
        self.assertEqual(machine.needed(), (IN_C, B_IN_C))
        self.assertEqual(machine.collect(), 1)
        # The wrapper in b has no entry, and is still the same one.
        self.assertEqual(machine.run((("get", "b", "root", "f", "y"), ("same", "b", "l", "y"), ("get", "c", "l", "f", "y"),
                                      ("same", "c", "x", "y"), ("get", "c", "x", "f", "z"))), ("object", True, "object", True, "cut"))
        self.assertEqual(machine.value("b", "l"), ("object", 0, (AB,)))
        self.assertEqual(machine.entries(), (IN_C, B_IN_C))

    def test_it_is_no_step(self):
        machine = made(LINE, *BESIDE, ("drop", "b", "l"))
        machine.collect()
        self.assertEqual((len(machine), machine.answers()), (3, (None, None, None)))


class Forget(unittest.TestCase):
    def refuse(self, machine, value):
        before = state(machine)
        kept = copy.deepcopy(value)
        with self.assertRaises(NoEntry) as caught:
            machine.forget(value)
        self.assertIs(type(caught.exception), NoEntry)
        self.assertIs(caught.exception.entry, value)
        self.assertEqual(value, kept)
        self.assertEqual(state(machine), before)

    def test_a_new_wrapper_is_another_one(self):
        machine = made(LINE, ("enter", "b", "x", "p", "a"))
        self.assertIsNone(machine.forget(IN_B))
        self.assertEqual(machine.run((("enter", "b", "y", "p", "a"), ("same", "b", "x", "y"), ("same", "b", "x", "x"),
                                      ("enter", "b", "z", "p", "a"), ("same", "b", "y", "z"))), (None, False, True, None, True))
        self.assertEqual(machine.value("b", "x"), machine.value("b", "y"))
        # Both lead to the same object, and both come home.
        self.assertEqual(machine.run((("number", "b", "n", 3), ("put", "b", "x", "f", "n"), ("get", "b", "y", "f", "m"),
                                      ("put", "b", "y", "f", "x"), ("get", "a", "root", "f", "x"), ("same", "a", "x", "root"))),
                         (None, None, 3, None, "object", True))

    def test_the_target_of_a_wrapper(self):
        machine = made(LINE, *BESIDE, ("put", "b", "root", "f", "l"), ("get", "c", "l", "f", "x"))
        machine.forget(IN_B)
        # The old wrapper in b leads to the old one in c, a new one in b to a new one in c.
        self.assertEqual(machine.run((("get", "c", "l", "f", "y"), ("same", "c", "x", "y"), ("enter", "b", "k", "p", "a"),
                                      ("put", "b", "root", "g", "k"), ("get", "c", "l", "g", "z"), ("same", "c", "x", "z"),
                                      ("put", "c", "l", "f", "x"), ("get", "b", "root", "f", "y"), ("same", "b", "y", "l"),
                                      ("same", "b", "y", "k"))),
                         ("object", True, None, None, "object", False, None, "object", True, False))

    def test_an_entry_of_a_revoked_gateway(self):
        machine = made(LINE, *BESIDE, ("revoke", "p"))
        machine.forget(IN_B)
        self.assertEqual(machine.run((("same", "b", "l", "l"), ("get", "b", "l", "f", "x"), ("enter", "b", "x", "p", "a"))),
                         (True, "cut", "cut"))

    def test_it_removes_this_entry_alone(self):
        for world in machine_worlds():
            machine = made(world, *drawn_program(chances(14, 1)[0], world, 100, revokes=0.3))
            for entry in machine.entries():
                other = machine.copied()
                self.assertIsNone(other.forget(entry))
                self.assertEqual(set(machine.entries()) - set(other.entries()), {entry})
                self.assertEqual(values(other, world), values(machine, world))
                self.assertEqual(other.answers(), machine.answers())

    def test_steps_afterwards(self):
        """After one entry is forgotten, answers and values follow the rules: as in the slow machine."""
        noticed = 0
        for world, chance in itertools.product(machine_worlds(), chances(15, 6)):
            slow, machine, never = SlowMachine(world), Machine(world), TrailMachine(world)
            forgotten = False
            for at in range(150):
                step = drawn_step(chance, slow, revokes=0.5)
                answer = slow.do(step)
                self.assertEqual(machine.do(step), answer, step)
                if answer != never.do(step):
                    noticed += 1
                    self.assertTrue(forgotten and step[0] == "same")
                self.assertEqual(values(machine, world), values(slow, world))
                self.assertEqual((machine.object_count(), machine.revoked()), (len(slow.things), tuple(sorted(slow.cut))))
                if not forgotten and at > 40 and machine.needed():
                    entry = chance.choice(machine.needed() if chance.random() < 0.8 else machine.entries())
                    machine.forget(entry)
                    slow.forget(entry)
                    forgotten = True
        self.assertGreater(noticed, 50)

    def test_any_value_that_is_no_entry(self):
        machine = made(LINE, *BESIDE, ("put", "b", "root", "f", "l"), ("get", "c", "l", "f", "x"))
        for value in odd_values() + [("q", "c", 2, (), "b"), ("p", "b", 1, (), "a"), ("p", "a", 0, (), "c"), ("p", "a", 1, (), "b"),
                                     ("p", "a", 0, (AB,), "b"), ("q", "b", 0, (), "c"), ("q", "b", 0, (BA,), "c")]:
            self.refuse(machine, value)

    def test_booleans_are_no_objects(self):
        machine = made(LINE, *BESIDE)
        self.assertEqual(("p", "a", False, (), "b"), IN_B)
        self.refuse(machine, ("p", "a", False, (), "b"))
        self.refuse(machine, ("q", "b", True, (), "c"))
        machine.forget(IN_B)

    def test_one_part_changed_at_any_depth(self):
        machine = made(LINE, *BESIDE, ("put", "b", "root", "f", "l"), ("get", "c", "l", "f", "x"))
        for entry in machine.entries():
            for value in changed(entry):
                if not is_entry(value, machine.entries()):
                    self.refuse(machine, value)

    def test_entries_that_were_removed_or_are_still_to_come(self):
        machine = made(LINE, BESIDE[0])
        self.refuse(machine, B_IN_C)
        machine.do(BESIDE[1])
        machine.do(("drop", "b", "l"))
        machine.collect()
        self.refuse(machine, IN_B)
        machine.forget(B_IN_C)

    def test_what_never_was_an_entry_also_later(self):
        for world, chance in itertools.product(machine_worlds(), chances(16, 2)):
            slow, machine = SlowMachine(world), Machine(world)
            seen = set()
            forgotten = 0
            for _ in range(60):
                step = drawn_step(chance, slow)
                slow.do(step)
                machine.do(step)
                seen.update(machine.entries())
                seen.update(slow.entries())
                if machine.entries() and forgotten < 2 and chance.random() < 0.1:
                    machine.forget(machine.entries()[0])
                    forgotten += 1
            for entry in sorted(seen)[:4]:
                for value in changed(entry):
                    if not is_entry(value, seen):
                        with self.assertRaises(NoEntry) as caught:
                            machine.forget(value)
                        self.assertIs(caught.exception.entry, value)

    def test_by_name(self):
        machine = made(LINE, *BESIDE)
        self.assertIsNone(machine.forget(entry=IN_B))


class Copied(unittest.TestCase):
    def test_the_same_state(self):
        for world, chance in itertools.product(machine_worlds(), chances(17, 2)):
            machine = made(world, *drawn_program(chance, world, 60, revokes=1))
            other = machine.copied()
            self.assertIs(type(other), Machine)
            self.assertEqual(state(other), state(machine))

    def test_never_equal(self):
        machine = made(LINE, *BESIDE)
        machines = [machine, machine.copied(), machine.copied(), machine.copied().copied(), made(LINE, *BESIDE)]
        for one, other in itertools.product(range(5), repeat=2):
            self.assertEqual(machines[one] == machines[other], one == other)
            self.assertEqual(machines[one] != machines[other], one != other)

    def test_one_changes_nothing_of_the_other(self):
        for world, chance in itertools.product(machine_worlds(), chances(18, 2)):
            slow = SlowMachine(world)
            machine = Machine(world)
            for _ in range(50):
                step = drawn_step(chance, slow, revokes=1)
                slow.do(step)
                machine.do(step)
            group = [(machine, slow)]
            # Copies of copies, each of which goes on by itself.
            for _ in range(4):
                one, its_slow = chance.choice(group)
                group.append((one.copied(), copy.deepcopy(its_slow)))
                for at, (mine, my_slow) in enumerate(group):
                    before = [state(other) for other, other_slow in group[:at] + group[at + 1:]]
                    for _ in range(10):
                        step = drawn_step(chance, my_slow, revokes=1)
                        self.assertEqual(mine.do(step), my_slow.do(step))
                    if chance.random() < 0.5:
                        self.assertEqual(mine.collect(), my_slow.collect())
                    self.assertEqual([state(other) for other, other_slow in group[:at] + group[at + 1:]], before)
            for mine, my_slow in group:
                self.assertEqual(mine.answers(), tuple(my_slow.given))
                self.assertEqual((mine.entries(), mine.needed()), (my_slow.entries(), my_slow.needed()))
                self.assertEqual(values(mine, world), values(my_slow, world))

    def test_forget_in_one(self):
        machine = made(LINE, ("enter", "b", "x", "p", "a"))
        other = machine.copied()
        other.forget(IN_B)
        again = (("enter", "b", "y", "p", "a"), ("same", "b", "x", "y"))
        self.assertEqual(machine.entries(), (IN_B,))
        self.assertEqual(other.copied().run(again), (None, False))
        self.assertEqual(machine.run(again), (None, True))
        self.assertEqual(other.run(again), (None, False))

    def test_the_same_steps_have_the_same_answers(self):
        for world, chance in itertools.product(machine_worlds(), chances(19, 2)):
            program = drawn_program(chance, world, 160, revokes=1)
            machine = made(world, *program[:60])
            copies = [machine.copied(), machine.copied().copied()]
            copies[0].collect()
            given = machine.run(program[60:])
            for other in copies:
                self.assertEqual(other.run(program[60:]), given)
                self.assertEqual(values(other, world), values(machine, world))
            self.assertEqual(state(copies[1]), state(machine))

    def test_a_new_machine(self):
        machine = Machine(LONE)
        other = machine.copied()
        other.run((("new", "a", "x"), ("put", "a", "root", "f", "x")))
        self.assertEqual((machine.object_count(), len(machine)), (1, 0))
        self.assertEqual(machine.do(("get", "a", "root", "f", "x")), "none")

    def test_the_copied_world(self):
        machine = made(RING).copied()
        self.assertIsNone(machine.do(("enter", "a", "x", "r", "c")))
        self.assertEqual(machine.value("a", "x"), ("object", 2, (("r", "c", "a"),)))


if __name__ == "__main__":
    unittest.main()
