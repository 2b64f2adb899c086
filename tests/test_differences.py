import itertools
import unittest

from samples import HUB, LINE, LONE, RING, TWIN, ring_world, wraps
from slow import ALIKE, SlowMachine, chances, drawn_program, is_reference, machine_worlds, quiet_worlds, thing, trail
from wraptrails.cycles import shortest_cycle
from wraptrails.differences import compared, differences
from wraptrails.errors import HasRevoke
from wraptrails.machines import answers
from wraptrails.programs import is_program
from wraptrails.worlds import plain

AB = ("p", "a", "b")


def slow_answers(world, program):
    slow = SlowMachine(world)
    return [slow.do(step) for step in program]


def slow_compared(world, program):
    slow, found = SlowMachine(world), []
    for at, step in enumerate(program):
        slow.do(step)
        if step[0] == "same":
            one, other = (slow.variables.get((step[1], name)) for name in step[2:])
            if is_reference(one) and is_reference(other) and thing(one) is thing(other):
                found.append((at, thing(one).number, trail(one), trail(other)))
    return tuple(found)


def around(cycle):
    """A program in which two ways along a cycle lead from its last region to the root of its first one."""
    regions, names = [pair[0] for pair in cycle], [pair[1] for pair in cycle]
    # x is the root of the first region, passed on from each region to the next one by a field of its root.
    program = [("enter", regions[1], "x", names[0], regions[0])]
    for before, gateway, region in zip(regions[1:], names[1:], regions[2:]):
        program += [("put", before, "root", "f", "x"), ("enter", region, "l", gateway, before), ("get", region, "l", "f", "x")]
    return tuple(program) + (("enter", regions[-1], "y", names[-1], regions[0]), ("same", regions[-1], "x", "y"))


class Differences(unittest.TestCase):
    def check(self, world, program):
        """Compare with both slow runs; return the differences."""
        pairs = zip(slow_answers(world, program), slow_answers(plain(world), program), strict=True)
        expected = tuple(at for at, (one, other) in enumerate(pairs) if one != other)
        found = differences(world, program)
        self.assertEqual(found, expected)
        self.assertIs(type(found), tuple)
        # Section 3, (b): the `same` steps that compare two references to one object with two trails, and no others.
        rows = compared(world, program)
        self.assertEqual(rows, slow_compared(world, program))
        self.assertEqual(found, tuple(at for at, number, one, other in rows if one != other))
        return found

    def test_the_empty_program(self):
        for world in machine_worlds():
            self.assertEqual(differences(world, ()), ())
            self.assertEqual(compared(world, ()), ())

    def test_drawn_programs(self):
        found = equal = 0
        for world, chance in itertools.product(machine_worlds(), chances(30, 4)):
            program = drawn_program(chance, world, 200)
            found += len(self.check(world, program))
            equal += sum(one == other != () for at, number, one, other in compared(world, program))
        self.assertGreater(found, 200)
        self.assertGreater(equal, 200)

    def test_worlds_without_noticed_gateways(self):
        """Section 3, (a): always empty, although values are compared that have trails."""
        trails = 0
        for world, chance in itertools.product(quiet_worlds(), chances(31, 4)):
            program = drawn_program(chance, world, 150)
            self.assertEqual(answers(world, program), answers(plain(world), program))
            self.assertEqual(self.check(world, program), ())
            for at, number, one, other in compared(world, program):
                self.assertEqual(one, other)
                trails += one != ()
        self.assertGreater(trails, 1000)

    def test_rings(self):
        for size in range(2, 11):
            for kinds in (("wrap",), ("wrap", "open"), ("open",) * (size - 1) + ("wrap",), ("wrap",) + ("open",) * (size - 1)):
                world = ring_world(size, kinds)
                program = around(shortest_cycle(world))
                self.assertIs(is_program(world, program), True)
                self.assertEqual(self.check(world, program), (len(program) - 1,))
                self.assertEqual(answers(world, program)[-1], False)
                self.assertEqual(self.check(plain(world), program), ())

    def test_every_noticed_world(self):
        for world in machine_worlds():
            cycle = shortest_cycle(world)
            if cycle is not None:
                self.assertEqual(len(self.check(world, around(cycle))), 1)

    def test_two_trails_to_one_object(self):
        program = (("enter", "b", "x", "p", "a"), ("enter", "b", "y", "q", "a"), ("same", "b", "x", "y"), ("same", "b", "y", "y"),
                   ("same", "b", "y", "x"), ("same", "b", "x", "root"))
        self.assertEqual(self.check(TWIN, program), (2, 4))
        self.assertEqual(compared(TWIN, program), ((2, 0, (AB,), ()), (3, 0, (), ()), (4, 0, (), (AB,))))

    def test_around_the_ring_and_back(self):
        program = (("enter", "b", "l", "p", "a"), ("enter", "c", "l", "q", "b"), ("enter", "a", "l", "r", "c"),
                   ("put", "b", "root", "f", "l"), ("get", "c", "l", "f", "x"), ("put", "c", "root", "f", "x"),
                   ("get", "a", "l", "f", "x"), ("same", "a", "x", "root"), ("put", "a", "x", "g", "x"),
                   ("get", "a", "root", "g", "y"), ("same", "a", "y", "root"), ("same", "a", "x", "y"))
        self.assertEqual(self.check(RING, program), (7, 11))
        whole = (AB, ("q", "b", "c"), ("r", "c", "a"))
        self.assertEqual(compared(RING, program), ((7, 0, whole, ()), (10, 0, (), ()), (11, 0, whole, ())))

    def test_what_is_not_compared(self):
        program = (("same", "a", "x", "y"), ("number", "a", "x", 3), ("number", "a", "y", 3), ("same", "a", "x", "y"),
                   ("same", "a", "x", "root"), ("same", "a", "root", "z"), ("new", "a", "z"), ("same", "a", "z", "root"))
        self.assertEqual(compared(LONE, program), ())
        self.assertEqual(differences(LONE, program), ())

    def test_an_integer_is_no_object(self):
        program = (("number", "a", "x", 0), ("same", "a", "x", "root"), ("same", "a", "root", "x"), ("same", "a", "x", "x"))
        self.assertEqual(compared(LINE, program), ())

    def test_two_objects(self):
        program = (("enter", "b", "x", "h", "a"), ("enter", "b", "y", "h", "c"), ("same", "b", "x", "y"), ("same", "b", "x", "x"))
        self.assertEqual(compared(HUB, program), ((3, 0, (("h", "a", "b"),), (("h", "a", "b"),)),))
        self.assertEqual(differences(HUB, program), ())

    def test_kinds_of_values(self):
        for row in compared(ALIKE, drawn_program(chances(32, 1)[0], ALIKE, 200)):
            self.assertEqual([type(part) for part in row], [int, int, tuple, tuple])
        for at in differences(TWIN, around(shortest_cycle(TWIN))):
            self.assertIs(type(at), int)

    def test_six_hundred_steps(self):
        for world in (RING, ALIKE):
            self.check(world, drawn_program(chances(33, 1)[0], world, 600, longest=40))


class Revoke(unittest.TestCase):
    def test_a_revoke_step_at_any_place(self):
        for function, world in itertools.product((differences, compared), (LINE, TWIN, ALIKE)):
            program = drawn_program(chances(34, 1)[0], world, 12)
            self.assertIsInstance(function(world, program), tuple)
            for at, name in itertools.product(range(len(program) + 1), wraps(world)):
                with self.assertRaises(HasRevoke) as caught:
                    function(world, program[:at] + (("revoke", name),) + program[at:])
                self.assertIs(type(caught.exception), HasRevoke)

    def test_nothing_else(self):
        for function in (differences, compared):
            with self.assertRaises(HasRevoke):
                function(LINE, (("revoke", "p"),))


class Answers(unittest.TestCase):
    def test_drawn_programs(self):
        for world, chance in itertools.product(machine_worlds(), chances(35, 2)):
            program = drawn_program(chance, world, 100, revokes=1)
            self.assertEqual(answers(world, program), tuple(slow_answers(world, program)))

    def test_each_call_starts_anew(self):
        program = (("get", "a", "root", "f", "x"), ("put", "a", "root", "f", "root"), ("get", "a", "root", "f", "x"), ("revoke", "p"))
        for _ in range(3):
            self.assertEqual(answers(LINE, program), ("none", None, "object", None))
        self.assertEqual(answers(LINE, ()), ())


if __name__ == "__main__":
    unittest.main()
