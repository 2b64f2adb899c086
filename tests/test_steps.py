"""What each step does, with its answer, in both machines."""

import copy
import itertools
import unittest

from samples import APART, HUB, LINE, LONE, NAMESAKES, RING, TWIN, odd_values, ring_world
from slow import ALIKE, NAMES, SlowMachine, chances, drawn_program, drawn_step, machine_worlds
from wraptrails.errors import BadStep, TrailError
from wraptrails.machines import Machine
from wraptrails.trailmachine import TrailMachine
from wraptrails.worlds import plain

AB = ("p", "a", "b")
BA = ("p", "b", "a")
BC = ("q", "b", "c")
CB = ("q", "c", "b")
CA = ("r", "c", "a")

# b and c of a line refer to their neighbours' roots.
BESIDE = (("enter", "b", "l", "p", "a"), ("enter", "c", "l", "q", "b"))


def state(machine):
    """All that a caller can see of a machine, for the variables that the tests use."""
    world = machine.own_world
    seen = [machine.answers(), len(machine), machine.object_count(), machine.revoked()]
    for region in world[0]:
        seen.extend(machine.value(region, name) for name in NAMES + ("root", "l", "k", "w"))
    if isinstance(machine, Machine):
        seen.extend([machine.entries(), machine.needed()])
    return seen


def wrong_steps():
    return odd_values() + [
        ("new", "a", "root"), ("new", "d", "x"), ["new", "a", "x"], ("number", "a", "x", True), ("number", "a", "x", False),
        ("number", "a", "x", None), ("enter", "a", "x", "p", "a"), ("enter", "a", "x", "q", "c"), ("enter", "a", "x", "x", "b"),
        ("get", "a", "x", "f", "root"), ("revoke", "a"), ("revoke",), ("same", "a", "x"), (("new", "a", "x"),)]


class Steps:
    """The tests, for a class of machines that `make` is."""

    def check(self, machine, *rows):
        """Each row is a step and its answer."""
        for step, answer in rows:
            given = machine.do(step)
            self.assertEqual(given, answer, step)
            self.assertIs(type(given), type(answer))
        return machine

    def made(self, world, *program):
        machine = self.make(world)
        machine.run(program)
        return machine

    def test_at_first(self):
        for world in machine_worlds():
            machine = self.make(world)
            self.assertEqual((machine.answers(), len(machine), machine.revoked()), ((), 0, ()))
            self.assertEqual(machine.object_count(), len(world[0]))
            for at, region in enumerate(world[0]):
                self.assertEqual(machine.value(region, "root"), ("object", at, ()))
                for name in NAMES:
                    self.assertIsNone(machine.value(region, name))

    def test_new(self):
        machine = self.check(self.make(LINE), (("new", "b", "x"), None), (("new", "a", "x"), None), (("new", "b", "x"), None))
        self.assertEqual(machine.value("b", "x"), ("object", 5, ()))
        self.assertEqual(machine.value("a", "x"), ("object", 4, ()))
        self.assertIsNone(machine.value("c", "x"))
        self.assertEqual(machine.object_count(), 6)

    def test_number(self):
        for number in (0, 1, -1, 12, 10 ** 59, 10 ** 60 - 1, -(10 ** 60 - 1)):
            machine = self.check(self.make(LINE), (("number", "a", "x", number), None))
            self.assertEqual(machine.value("a", "x"), number)
            self.assertIs(type(machine.value("a", "x")), int)
            self.assertIsNone(machine.value("b", "x"))
            self.assertEqual(machine.object_count(), 3)

    def test_drop(self):
        machine = self.make(LINE)
        for step in (("new", "a", "x"), ("number", "a", "x", 3), ("drop", "a", "x"), ("drop", "a", "y")):
            self.check(machine, (step, None), (("drop", "a", "x"), None), (("same", "a", "x", "never"), True))
            self.assertIsNone(machine.value("a", "x"))

    def test_assigning_one_variable_leaves_the_others(self):
        machine = self.made(LINE, ("number", "a", "x", 1), ("number", "a", "xx", 2), ("number", "b", "x", 3), ("new", "a", "y"))
        machine.run((("number", "a", "x", 4), ("drop", "a", "y")))
        self.assertEqual([machine.value("a", "x"), machine.value("a", "xx"), machine.value("b", "x")], [4, 2, 3])

    def test_enter(self):
        for world, r, g, s in ((LINE, "b", "p", "a"), (LINE, "a", "p", "b"), (HUB, "c", "h", "a"), (NAMESAKES, "c", "c", "b")):
            machine = self.check(self.make(world), (("enter", r, "x", g, s), None))
            self.assertEqual(machine.value(r, "x"), ("object", world[0].index(s), ((g, s, r),)))
            self.assertEqual(machine.object_count(), len(world[0]))

    def test_enter_by_an_open_gateway(self):
        machine = self.check(self.make(TWIN), (("enter", "b", "x", "q", "a"), None), (("enter", "b", "y", "p", "a"), None),
                             (("enter", "b", "z", "q", "a"), None), (("same", "b", "x", "y"), False),
                             (("same", "b", "x", "z"), True))
        self.assertEqual(machine.value("b", "x"), ("object", 0, ()))
        self.assertEqual(machine.value("b", "y"), ("object", 0, (AB,)))

    def test_enter_twice(self):
        self.check(self.made(LINE, ("enter", "b", "x", "p", "a"), ("enter", "b", "y", "p", "a"), ("enter", "b", "z", "q", "c")),
                   (("same", "b", "x", "y"), True), (("same", "b", "x", "z"), False), (("same", "b", "x", "root"), False))

    def test_enter_by_two_gateways(self):
        machine = self.made(ring_world(2, ("wrap",)), ("enter", "b", "x", "ga", "a"), ("enter", "b", "y", "gb", "a"))
        self.check(machine, (("same", "b", "x", "y"), False))
        # Both lead to one object.
        self.check(machine, (("number", "b", "z", 9), None), (("put", "b", "x", "f", "z"), None), (("get", "b", "y", "f", "w"), 9))

    def test_fields(self):
        machine = self.made(LINE, ("new", "a", "x"), ("number", "a", "y", 5))
        self.check(machine, (("get", "a", "x", "f", "z"), "none"), (("put", "a", "x", "f", "y"), None),
                   (("get", "a", "x", "f", "z"), 5), (("get", "a", "x", "g", "z"), "none"), (("put", "a", "x", "f", "x"), None),
                   (("get", "a", "x", "f", "z"), "object"), (("same", "a", "x", "z"), True),
                   (("get", "a", "root", "f", "z"), "none"), (("put", "a", "x", "f", "w"), None),
                   (("get", "a", "x", "f", "y"), "none"))
        self.assertIsNone(machine.value("a", "y"))

    def test_fields_of_every_number_of_names(self):
        machine = self.made(LONE, ("new", "a", "x"))
        for at, field in enumerate(("f", "ff", "root", "x", "abcdefgh")):
            self.check(machine, (("number", "a", "y", at), None), (("put", "a", "x", field, "y"), None))
        for at, field in enumerate(("f", "ff", "root", "x", "abcdefgh")):
            self.check(machine, (("get", "a", "x", field, "y"), at))

    def test_a_field_called_root(self):
        self.check(self.make(LINE), (("get", "a", "root", "root", "x"), "none"), (("put", "a", "root", "root", "root"), None),
                   (("get", "a", "root", "root", "x"), "object"), (("same", "a", "x", "root"), True))

    def test_what_a_field_holds_is_the_value_then(self):
        self.check(self.made(LINE, ("number", "a", "x", 1), ("put", "a", "root", "f", "x"), ("number", "a", "x", 2)),
                   (("get", "a", "root", "f", "y"), 1))

    def test_same(self):
        machine = self.made(LINE, ("number", "a", "m", 1), ("number", "a", "n", 1), ("number", "a", "o", 0), ("new", "a", "x"),
                            ("new", "a", "y"))
        groups = (("m", "n"), ("o",), ("x",), ("y",), ("root",), ("u", "v"))
        for one, other in itertools.product(groups, repeat=2):
            for names in itertools.product(one, other):
                self.check(machine, (("same", "a", *names), one == other))
        # Numbers of objects and integers are not the same thing.
        self.check(machine, (("number", "a", "n", 3), None), (("same", "a", "x", "n"), False))

    def test_neighbouring_integers(self):
        for number in (0, -1, 2 ** 53, 2 ** 63 - 1, 2 ** 64, 10 ** 59, 10 ** 60 - 2, -(10 ** 60 - 1)):
            self.check(self.made(LINE, *BESIDE, ("number", "a", "x", number), ("number", "b", "y", number + 1)),
                       (("put", "a", "root", "f", "x"), None), (("get", "b", "l", "f", "x"), number),
                       (("same", "b", "x", "y"), False), (("number", "b", "y", number), None), (("same", "b", "x", "y"), True))

    def test_same_changes_nothing(self):
        machine = self.made(LINE, *BESIDE)
        before = state(machine)[4:]
        machine.do(("same", "b", "l", "root"))
        self.assertEqual(state(machine)[4:], before)

    def test_numbers_and_none_through_gateways(self):
        for world, gateway in ((LINE, "p"), (TWIN, "p"), (TWIN, "q"), (HUB, "h")):
            machine = self.made(world, ("enter", "b", "l", gateway, "a"), ("number", "b", "x", 10 ** 59))
            self.check(machine, (("put", "b", "l", "f", "x"), None), (("get", "a", "root", "f", "y"), 10 ** 59),
                       (("get", "b", "l", "f", "z"), 10 ** 59), (("same", "b", "x", "z"), True),
                       (("put", "b", "l", "f", "none"), None), (("get", "b", "l", "f", "x"), "none"),
                       (("get", "a", "root", "f", "y"), "none"))

    def test_home(self):
        """What is stored through the very wrapper comes home."""
        machine = self.check(self.made(LINE, *BESIDE), (("put", "b", "l", "f", "l"), None),
                             (("get", "a", "root", "f", "y"), "object"), (("same", "a", "root", "y"), True),
                             (("get", "b", "l", "f", "z"), "object"), (("same", "b", "l", "z"), True))
        self.assertEqual(machine.value("a", "y"), ("object", 0, ()))

    def test_a_wrapper_with_another_start(self):
        machine = self.made(HUB, ("enter", "b", "x", "h", "a"), ("put", "b", "root", "f", "x"), ("enter", "c", "y", "h", "b"))
        self.check(machine, (("get", "c", "y", "f", "z"), "object"))
        self.assertEqual(machine.value("c", "z"), ("object", 0, (("h", "a", "c"),)))
        # It is the wrapper that c gets from a itself.
        self.check(machine, (("enter", "c", "w", "h", "a"), None), (("same", "c", "z", "w"), True),
                   (("put", "c", "y", "f", "z"), None), (("get", "b", "root", "f", "k"), "object"), (("same", "b", "k", "x"), True))

    def test_gateways_of_many_members(self):
        for size in (3, 4, 5, 10):
            regions = tuple("abcdefghij"[:size])
            machine = self.make((regions, (("h", regions, "wrap"),)))
            for before, region in zip(regions, regions[1:]):
                machine.run((("enter", region, "l", "h", before), ("put", before, "root" if before == "a" else "x", "f", "root"),
                             ("put", before, "root", "g", "root" if before == "a" else "x"), ("get", region, "l", "g", "x")))
                self.assertEqual(machine.value(region, "x"), ("object", 0, (("h", "a", region),)))
                self.check(machine, (("enter", region, "y", "h", "a"), None), (("same", region, "x", "y"), True))

    def test_a_chain_of_wrappers(self):
        machine = self.made(LINE, *BESIDE, ("put", "b", "root", "f", "l"))
        self.check(machine, (("get", "c", "l", "f", "x"), "object"), (("get", "c", "l", "f", "y"), "object"),
                   (("same", "c", "x", "y"), True))
        self.assertEqual(machine.value("c", "x"), ("object", 0, (AB, BC)))

    def chained(self):
        """c.x leads along two gateways to the root of a."""
        return self.made(LINE, *BESIDE, ("put", "b", "root", "f", "l"), ("get", "c", "l", "f", "x"))

    def test_stored_through_a_chain(self):
        machine = self.check(self.chained(), (("put", "c", "x", "g", "root"), None), (("get", "a", "root", "g", "y"), "object"))
        self.assertEqual(machine.value("a", "y"), ("object", 2, (CB, BA)))
        self.check(machine, (("get", "c", "x", "g", "z"), "object"), (("same", "c", "root", "z"), True))
        self.check(machine, (("put", "c", "x", "g", "x"), None), (("get", "a", "root", "g", "y"), "object"),
                   (("same", "a", "y", "root"), True))
        # The root of b in c is a wrapper of q that comes home on the way.
        self.check(machine, (("put", "c", "x", "g", "l"), None), (("get", "a", "root", "g", "y"), "object"),
                   (("enter", "a", "k", "p", "b"), None), (("same", "a", "y", "k"), True))
        self.assertEqual(machine.value("a", "y"), ("object", 1, (BA,)))

    def test_read_through_a_chain(self):
        machine = self.check(self.chained(), (("new", "a", "x"), None), (("put", "a", "root", "g", "x"), None),
                             (("get", "c", "x", "g", "y"), "object"), (("get", "c", "x", "g", "z"), "object"),
                             (("same", "c", "y", "z"), True))
        self.assertEqual(machine.value("c", "y"), ("object", 3, (AB, BC)))
        self.check(machine, (("number", "c", "w", 8), None), (("put", "c", "y", "f", "w"), None), (("get", "a", "x", "f", "y"), 8))

    def test_a_value_with_a_trail_in_a_field_read_by_another_region(self):
        machine = self.made(LINE, ("enter", "b", "l", "q", "c"), ("put", "b", "root", "f", "l"), ("enter", "a", "l", "p", "b"))
        self.check(machine, (("get", "a", "l", "f", "x"), "object"))
        self.assertEqual(machine.value("a", "x"), ("object", 2, (CB, BA)))

    def test_all_of_a_zone_share_references(self):
        machine = self.made(NAMESAKES, ("enter", "b", "x", "a", "a"), ("enter", "c", "l", "b", "b"), ("put", "b", "root", "f", "x"))
        self.check(machine, (("get", "c", "l", "f", "y"), "object"))
        self.assertEqual(machine.value("c", "y"), machine.value("b", "x"))

    def test_around_a_ring(self):
        machine = self.made(RING, ("enter", "b", "l", "p", "a"), ("enter", "c", "l", "q", "b"), ("enter", "a", "l", "r", "c"),
                            ("put", "b", "root", "f", "l"), ("get", "c", "l", "f", "x"), ("put", "c", "root", "f", "x"))
        self.check(machine, (("get", "a", "l", "f", "x"), "object"), (("same", "a", "x", "root"), False))
        self.assertEqual(machine.value("a", "x"), ("object", 0, (AB, BC, CA)))
        # Once more around: the reference that is read passes the whole trail again.
        self.check(machine, (("put", "a", "root", "f", "x"), None), (("get", "a", "x", "f", "y"), "object"))
        self.assertEqual(machine.value("a", "y"), ("object", 0, (AB, BC, CA) * 2))
        self.check(machine, (("put", "a", "x", "g", "x"), None), (("get", "a", "root", "g", "z"), "object"),
                   (("same", "a", "z", "root"), True))

    def test_no_object(self):
        machine = self.made(LINE, ("number", "a", "n", 0), ("new", "a", "x"), ("number", "a", "y", 4))
        before = state(machine)[4:]
        self.check(machine, (("get", "a", "n", "f", "y"), "no object"), (("put", "a", "n", "f", "x"), "no object"),
                   (("get", "a", "u", "f", "y"), "no object"), (("put", "a", "u", "f", "u"), "no object"),
                   (("get", "a", "u", "f", "x"), "no object"))
        self.assertEqual(state(machine)[4:], before)
        self.assertEqual(machine.value("a", "y"), 4)
        # Also if gateways are revoked.
        machine = self.made(LINE, ("revoke", "p"), ("revoke", "q"))
        self.check(machine, (("get", "a", "x", "f", "y"), "no object"), (("put", "c", "x", "f", "root"), "no object"))

    def test_cut(self):
        machine = self.check(self.made(LINE, *BESIDE, ("number", "b", "x", 5), ("put", "b", "l", "f", "x")), (("revoke", "p"), None))
        before = state(machine)[4:]
        self.check(machine, (("get", "b", "l", "f", "y"), "cut"), (("put", "b", "l", "f", "root"), "cut"),
                   (("enter", "b", "y", "p", "a"), "cut"), (("enter", "a", "y", "p", "b"), "cut"),
                   (("enter", "b", "l", "p", "a"), "cut"))
        self.assertEqual(state(machine)[4:], before)
        # The field is as it was, and the other gateway works.
        self.check(machine, (("get", "a", "root", "f", "y"), 5), (("enter", "b", "y", "q", "c"), None),
                   (("get", "c", "l", "f", "y"), "none"))
        self.assertEqual(machine.revoked(), ("p",))

    def test_cut_at_any_place_of_the_trail(self):
        for gateway in ("p", "q"):
            machine = self.chained()
            self.check(machine, (("revoke", gateway), None), (("get", "c", "x", "f", "y"), "cut"), (("put", "c", "x", "f", "y"), "cut"))
            self.check(machine, (("get", "c", "l", "f", "y"), "object" if gateway == "p" else "cut"),
                       (("get", "b", "l", "f", "y"), "cut" if gateway == "p" else "none"))

    def test_only_x_is_cut(self):
        """A value with a trail across a revoked gateway is stored, read and compared as before."""
        machine = self.check(self.made(LINE, *BESIDE), (("revoke", "p"), None), (("put", "b", "root", "f", "l"), None),
                             (("get", "b", "root", "f", "y"), "object"), (("same", "b", "l", "y"), True),
                             (("get", "c", "l", "f", "x"), "object"), (("get", "c", "l", "f", "y"), "object"),
                             (("same", "c", "x", "y"), True), (("put", "c", "l", "g", "x"), None),
                             (("get", "b", "root", "g", "z"), "object"), (("same", "b", "z", "l"), True))
        self.assertEqual(machine.value("c", "x"), ("object", 0, (AB, BC)))

    def test_home_before_the_gateway_was_revoked(self):
        """What came home has no trail any more, so that nothing cuts it."""
        self.check(self.made(LINE, *BESIDE, ("put", "b", "l", "f", "l"), ("revoke", "p")), (("get", "a", "root", "f", "y"), "object"),
                   (("get", "a", "y", "f", "z"), "object"))

    def test_revoke_twice(self):
        machine = self.check(self.make(RING), (("revoke", "q"), None), (("revoke", "q"), None), (("revoke", "p"), None))
        self.assertEqual(machine.revoked(), ("p", "q"))
        self.check(machine, (("enter", "b", "x", "q", "c"), "cut"), (("enter", "a", "x", "r", "c"), None))

    def test_open_gateways_stay(self):
        self.check(self.made(TWIN, ("enter", "b", "x", "q", "a"), ("revoke", "p")), (("get", "b", "x", "f", "y"), "none"),
                   (("enter", "b", "y", "q", "a"), None), (("same", "b", "x", "y"), True), (("enter", "b", "y", "p", "a"), "cut"))

    def test_names_that_are_alike(self):
        machine = self.made(ALIKE, ("enter", "root", "x", "open", "a"), ("enter", "aa", "x", "root", "root"),
                            ("enter", "aa", "y", "a", "a"), ("enter", "root", "y", "wrap", "a"), ("enter", "aab", "x", "aa", "aa"))
        self.assertEqual(machine.value("root", "x"), ("object", 0, (("open", "a", "root"),)))
        self.assertEqual(machine.value("aa", "x"), ("object", 4, (("root", "root", "aa"),)))
        self.assertEqual(machine.value("aa", "y"), ("object", 0, (("a", "a", "aa"),)))
        self.assertEqual(machine.value("root", "y"), ("object", 0, ()))
        self.check(machine, (("revoke", "aa"), None), (("get", "aab", "x", "f", "y"), "cut"), (("get", "aa", "y", "f", "z"), "none"),
                   (("revoke", "open"), None), (("get", "root", "x", "f", "z"), "cut"), (("get", "root", "y", "f", "z"), "none"),
                   (("get", "aa", "x", "f", "z"), "none"), (("revoke", "root"), None), (("get", "aa", "x", "f", "z"), "cut"),
                   (("get", "root", "root", "f", "z"), "none"))
        self.assertEqual(machine.revoked(), ("aa", "open", "root"))

    def test_answers_and_len(self):
        machine = self.make(APART)
        program = drawn_program(chances(3, 1)[0], APART, 80, revokes=4)
        given = []
        for step in program:
            given.append(machine.do(step))
            self.assertEqual(machine.answers(), tuple(given))
            self.assertEqual(len(machine), len(given))
        self.assertEqual(self.make(APART).run(program), tuple(given))

    def test_run_in_parts(self):
        for world in machine_worlds():
            program = drawn_program(chances(4, 1)[0], world, 60, revokes=3)
            whole, parts = self.make(world), self.make(world)
            given = whole.run(program)
            self.assertIs(type(given), tuple)
            self.assertEqual(parts.run(program[:20]) + parts.run(()) + parts.run(program[20:]), given)
            self.assertEqual(state(whole), state(parts))

    def test_the_slow_answers(self):
        """After each step of drawn programs: answer, values, counts and revoked gateways."""
        kinds = set()
        for world, chance in itertools.product(machine_worlds(), chances(5, 3)):
            slow, machine = SlowMachine(world), self.make(world)
            for _ in range(200):
                step = drawn_step(chance, slow, revokes=1)
                answer = slow.do(step)
                self.assertEqual(machine.do(step), answer, step)
                kinds.add((step[0], type(answer) if type(answer) is int else answer))
                self.assertEqual(machine.object_count(), len(slow.things))
                self.assertEqual(machine.revoked(), tuple(sorted(slow.cut)))
                for region, name in itertools.product(world[0], NAMES + ("root",)):
                    self.assertEqual(machine.value(region, name), slow.value(region, name))
            self.assertEqual(machine.answers(), tuple(slow.given))
        for kind in ("new", "number", "drop", "enter", "put", "revoke"):
            self.assertIn((kind, None), kinds)
        for kind in (("enter", "cut"), ("put", "cut"), ("put", "no object"), ("get", "cut"), ("get", "no object"),
                     ("get", "none"), ("get", "object"), ("get", int), ("same", True), ("same", False)):
            self.assertIn(kind, kinds)

    def test_six_hundred_steps(self):
        """Trails of up to 400 crossings, by reading around a ring again and again."""
        machine = self.make(RING)
        for region, gateway, before in (("b", "p", "a"), ("c", "q", "b"), ("a", "r", "c")):
            machine.do(("enter", region, "l", gateway, before))
        machine.run((("put", "b", "root", "f", "l"), ("get", "c", "l", "f", "x"), ("put", "c", "root", "f", "x"),
                     ("get", "a", "l", "f", "x")))
        self.assertEqual(machine.value("a", "x"), ("object", 0, (AB, BC, CA)))
        length = 3
        while length < 300:
            machine.run((("put", "a", "root", "f", "x"), ("get", "a", "x", "f", "x")))
            length *= 2
        self.assertEqual(machine.value("a", "x"), ("object", 0, (AB, BC, CA) * (length // 3)))
        while len(machine) < 588:
            number = len(machine)
            self.check(machine, (("put", "a", "x", "g", "x"), None), (("get", "a", "root", "g", "y"), "object"),
                       (("same", "a", "y", "root"), True), (("put", "a", "root", "g", "x"), None),
                       (("get", "c", "l", "f", "y"), "object"), (("number", "a", "n", number), None),
                       (("put", "a", "x", "n", "n"), None), (("get", "a", "root", "n", "m"), number))
        self.check(machine, (("revoke", "q"), None), (("get", "a", "x", "g", "y"), "cut"), (("get", "b", "l", "g", "y"), "object"))
        given = machine.run((("same", "a", "x", "x"),) * (600 - len(machine)))
        self.assertEqual(given[-1], True)
        self.assertEqual(len(machine.answers()), 600)

    def test_trails_of_five_hundred_crossings(self):
        machine = self.made(RING, ("enter", "b", "l", "p", "a"), ("enter", "c", "l", "q", "b"), ("enter", "a", "l", "r", "c"),
                            ("put", "b", "root", "f", "l"), ("get", "c", "l", "f", "x"), ("put", "c", "root", "f", "x"),
                            ("get", "a", "l", "f", "xa"))
        whole = (AB, BC, CA)
        for one, other in zip("abcdefg", "bcdefgh"):
            # Twice as long each time.
            machine.run((("put", "a", "root", "f", "x" + one), ("get", "a", "x" + one, "f", "x" + other)))
        for name in ("xf", "xc", "xb"):
            machine.run((("put", "a", "root", "f", "xh"), ("get", "a", name, "f", "xh")))
        self.assertEqual(machine.value("a", "xh"), ("object", 0, whole * 166))
        self.check(machine, (("put", "a", "xh", "g", "root"), None), (("get", "a", "root", "g", "y"), "object"),
                   (("same", "a", "y", "xh"), False), (("get", "a", "xh", "g", "z"), "object"), (("same", "a", "z", "root"), True),
                   (("number", "a", "n", 10 ** 59), None), (("put", "a", "xh", "n", "n"), None), (("get", "a", "y", "n", "m"), 10 ** 59))
        self.assertEqual(machine.value("a", "y"), ("object", 0, tuple((g, end, start) for g, start, end in whole[::-1]) * 166))
        self.check(machine, (("revoke", "q"), None), (("get", "a", "xh", "n", "m"), "cut"), (("put", "a", "y", "n", "m"), "cut"),
                   (("same", "a", "xh", "xh"), True), (("put", "a", "root", "f", "xh"), None), (("get", "b", "l", "f", "y"), "object"))
        self.assertEqual(len(machine.value("b", "y")[2]), 499)

    def test_six_hundred_drawn_steps(self):
        for world in (RING, ALIKE, ring_world(2, ("wrap",)), TWIN):
            program = drawn_program(chances(6, 1)[0], world, 600, revokes=0.2, longest=60)
            slow = SlowMachine(world)
            self.assertEqual(self.make(world).run(program), tuple(slow.do(step) for step in program))

    def test_do_with_any_value(self):
        machine = self.made(LINE, *BESIDE, ("revoke", "q"))
        before = state(machine)
        for value in wrong_steps():
            kept = copy.deepcopy(value)
            with self.assertRaises(BadStep) as caught:
                machine.do(value)
            self.assertIs(type(caught.exception), BadStep)
            self.assertIs(caught.exception.step, value)
            self.assertEqual(value, kept)
            self.assertEqual(state(machine), before)

    def test_run_with_any_value_that_is_no_tuple(self):
        machine = self.made(LINE, *BESIDE)
        before = state(machine)
        for value in odd_values() + [[("new", "a", "x")], [], {("new", "a", "x"): 1}]:
            if not isinstance(value, tuple):
                with self.assertRaises(BadStep) as caught:
                    machine.run(value)
                self.assertIs(caught.exception.step, value)
                self.assertEqual(state(machine), before)

    def test_run_with_the_first_item_that_is_no_step(self):
        good = (("new", "a", "x"), ("enter", "b", "x", "p", "a"), ("put", "b", "x", "f", "x"), ("revoke", "p"))
        for value in wrong_steps():
            machine = self.made(LINE, *BESIDE)
            before = state(machine)
            for at in range(len(good) + 1):
                for rest in ((), (None,), ("new",), ([], {})):
                    with self.assertRaises(BadStep) as caught:
                        machine.run(good[:at] + (value,) + rest + good[at:])
                    self.assertIs(type(caught.exception), BadStep)
                    self.assertIs(caught.exception.step, value)
                    self.assertEqual(state(machine), before)
            self.assertEqual(machine.run(good), (None, None, None, None))

    def test_steps_of_another_world(self):
        for step in (("revoke", "p"), ("revoke", "q")):
            with self.assertRaises(BadStep):
                self.make(plain(LINE)).do(step)
        with self.assertRaises(TrailError):
            self.make(LINE).run((("new", "d", "x"),))

    def test_the_empty_program(self):
        machine = self.made(LINE, *BESIDE)
        before = state(machine)
        self.assertEqual(machine.run(()), ())
        self.assertEqual(state(machine), before)

    def test_what_is_returned_is_apart_from_the_machine(self):
        machine = self.made(LINE, *BESIDE)
        before, values = machine.answers(), machine.value("b", "l")
        machine.run((("drop", "b", "l"), ("revoke", "p")))
        self.assertEqual((before, values), ((None, None), ("object", 0, (AB,))))

    def test_by_name(self):
        machine = self.make(world=LINE)
        self.assertIsNone(machine.do(step=("enter", "b", "x", "p", "a")))
        self.assertEqual(machine.run(program=(("same", "b", "x", "x"),)), (True,))
        self.assertEqual(machine.value(region="b", name="x"), ("object", 0, (AB,)))
        self.assertEqual(machine.value("b", name="x"), machine.value(name="x", region="b"))

    def test_two_machines_are_never_equal(self):
        one, other = self.make(LINE), self.make(LINE)
        for machine in (one, other):
            machine.run(BESIDE)
        self.assertTrue(one == one and other == other)
        self.assertFalse(one == other or not one != other)
        self.assertFalse(one == None or one == 2 or one == LINE)  # noqa: E711
        self.assertEqual(state(one), state(other))


class MachineSteps(Steps, unittest.TestCase):
    make = Machine


class TrailMachineSteps(Steps, unittest.TestCase):
    make = TrailMachine

    def test_no_tables(self):
        for name in ("entries", "needed", "collect", "forget"):
            self.assertFalse(hasattr(TrailMachine, name), name)


if __name__ == "__main__":
    unittest.main()
