import itertools
import re
import unittest

from samples import HUB, LINE, LONE, NAMESAKES, RING, TWIN, changed, odd_values
from slow import ALIKE, chances, drawn_program, machine_worlds
from wraptrails.programs import has_revoke, is_program, is_step
from wraptrails.worlds import plain

STEPS = (
    ("new", "a", "x"), ("number", "a", "x", 5), ("drop", "b", "y"), ("enter", "b", "x", "p", "a"),
    ("put", "a", "x", "f", "y"), ("get", "a", "x", "f", "y"), ("same", "a", "x", "y"), ("revoke", "p"),
)


def told_step(world, value):
    """What the document says of a step, once more and with other means."""
    ends = {name: those for name, those, kind in world[1]}

    def name(part):
        return isinstance(part, str) and re.fullmatch("[a-z]{1,8}", part) is not None

    def region(part):
        return isinstance(part, str) and world[0].count(part) == 1

    match value if isinstance(value, tuple) else None:
        case ("new" | "drop", r, x):
            return region(r) and name(x) and x != "root"
        case ("number", r, x, n):
            return region(r) and name(x) and x != "root" and type(n) is int
        case ("enter", r, x, g, s):
            known = region(r) and region(s) and isinstance(g, str) and g in ends
            return known and name(x) and x != "root" and r != s and {r, s} <= set(ends[g])
        case ("put", r, x, f, y):
            return region(r) and name(x) and name(f) and name(y)
        case ("get", r, x, f, y):
            return region(r) and name(x) and name(f) and name(y) and y != "root"
        case ("same", r, x, y):
            return region(r) and name(x) and name(y)
        case ("revoke", g):
            return isinstance(g, str) and g in [name for name, those, kind in world[1] if kind == "wrap"]
    return False


class IsStep(unittest.TestCase):
    def yes(self, world, *values):
        for value in values:
            self.assertIs(is_step(world, value), True, value)

    def no(self, world, *values):
        for value in values:
            self.assertIs(is_step(world, value), False, value)

    def test_each_kind(self):
        self.yes(LINE, *STEPS)
        self.yes(RING, *STEPS)

    def test_one_part_changed_removed_or_added_at_any_depth(self):
        for world in (LINE, RING, TWIN, NAMESAKES, ALIKE):
            for step in STEPS + (("enter", "a", "b", "a", "b"), ("revoke", "a"), ("enter", "root", "x", "open", "baa")):
                for value in changed(step):
                    self.assertIs(is_step(world, value), told_step(world, value), value)

    def test_every_kind_with_every_number_of_parts(self):
        kinds = [step[0] for step in STEPS]
        for kind, count in itertools.product(kinds + ["", "News", "revok"], range(8)):
            value = (kind,) + ("a", "x", "f", "y", "b", "c", "d")[:count]
            self.assertIs(is_step(LINE, value), told_step(LINE, value), value)

    def test_every_row_of_names(self):
        parts = ("a", "b", "p", "q", "root", "zz", 3)
        for kind, count in itertools.product([step[0] for step in STEPS], (1, 2, 3, 4)):
            for row in itertools.product(parts, repeat=count):
                self.assertIs(is_step(TWIN, (kind, *row)), told_step(TWIN, (kind, *row)))

    def test_steps_of_another_world(self):
        steps = {world: drawn_program(chances(1, 1)[0], world, 120, revokes=20) for world in machine_worlds()}
        for world, (other, program) in itertools.product(steps, steps.items()):
            for step in program:
                self.assertIs(is_step(world, step), told_step(world, step), step)
                if world == other:
                    self.yes(world, step)
        self.no(LINE, ("new", "d", "x"), ("enter", "c", "x", "r", "a"), ("revoke", "r"))
        self.no(LONE, ("new", "b", "x"), ("enter", "a", "x", "p", "b"), ("revoke", "p"))

    def test_where_root_may_not_stand(self):
        self.no(LINE, ("new", "a", "root"), ("number", "a", "root", 5), ("drop", "a", "root"),
                ("enter", "b", "root", "p", "a"), ("get", "a", "x", "f", "root"))

    def test_where_root_may_stand(self):
        for x, f, y in itertools.product(("root", "x"), ("root", "f"), ("root", "y")):
            self.yes(LINE, ("put", "a", x, f, y), ("get", "a", x, f, "y"), ("same", "a", x, y))
        # As a region and as a gateway, where the world has them.
        self.yes(ALIKE, ("new", "root", "x"), ("same", "root", "root", "root"), ("enter", "root", "x", "open", "a"),
                 ("enter", "aa", "x", "root", "root"), ("revoke", "root"), ("revoke", "open"))
        self.no(ALIKE, ("new", "root", "root"), ("enter", "aa", "root", "root", "root"))
        self.no(LINE, ("new", "root", "x"), ("revoke", "root"))

    def test_enter(self):
        for r, g, s in itertools.product("abcx", "pqrx", "abcx"):
            good = (r, g, s) in [("a", "p", "b"), ("b", "p", "a"), ("b", "q", "c"), ("c", "q", "b")]
            self.assertIs(is_step(LINE, ("enter", r, "x", g, s)), good)
            self.assertIs(is_step(plain(LINE), ("enter", r, "x", g, s)), good)
        for r, s in itertools.product("abc", repeat=2):
            self.assertIs(is_step(HUB, ("enter", r, "x", "h", s)), r != s)

    def test_revoke(self):
        self.yes(TWIN, ("revoke", "p"))
        self.no(TWIN, ("revoke", "q"), ("revoke", "a"), ("revoke",), ("revoke", ""), ("revoke", None), ("revoke", ("p",)),
                ("revoke", "p", "q"), ("revoke", ["p"]), ("revoke", "x"))
        self.no(plain(RING), ("revoke", "p"), ("revoke", "q"))

    def test_integers(self):
        for number in (0, 1, -1, 7, 10 ** 59, 10 ** 60 - 1, -(10 ** 60 - 1), 10 ** 70):
            self.yes(LINE, ("number", "a", "x", number))
        for value in (True, False, None, "5", "", (5,), [5], {5: 5}, ()):
            self.no(LINE, ("number", "a", "x", value))

    def test_names(self):
        for name in ("a", "z", "new", "abcdefgh", "open"):
            self.yes(LINE, ("new", "a", name), ("put", "a", name, name, name), ("get", "a", name, name, name))
        for name in ("", "A", "a1", "abcdefghi", "a b", "a\n", "\u00e4", "_", "x" * 20000, 1, None, True, ("x",), ["x"]):
            self.no(LINE, ("new", "a", name), ("drop", "a", name), ("number", "a", name, 1), ("enter", "b", name, "p", "a"),
                    ("put", "a", name, "f", "y"), ("put", "a", "x", name, "y"), ("put", "a", "x", "f", name),
                    ("get", "a", name, "f", "y"), ("get", "a", "x", name, "y"), ("get", "a", "x", "f", name),
                    ("same", "a", name, "y"), ("same", "a", "x", name))

    def test_lists(self):
        for step in STEPS:
            self.no(LINE, list(step), [step], (step,))

    def test_values_of_any_kind(self):
        for value in odd_values():
            for world in (LONE, LINE, ALIKE):
                self.no(world, value, (value,), (value, "a", "x"))


class IsProgram(unittest.TestCase):
    def yes(self, world, value):
        self.assertIs(is_program(world, value), True, value)

    def no(self, world, value):
        self.assertIs(is_program(world, value), False, value)

    def test_empty(self):
        for world in (LONE, LINE, ALIKE):
            self.yes(world, ())
            self.no(world, [])

    def test_steps(self):
        for count in range(len(STEPS) + 1):
            self.yes(LINE, STEPS[:count])
            self.yes(LINE, STEPS[count:])
            self.no(LINE, list(STEPS[:count]))
        for step in STEPS:
            self.yes(LINE, (step,))
            self.no(LINE, step)
            self.no(LINE, (list(step),))

    def test_one_item_that_is_no_step(self):
        for at in range(len(STEPS) + 1):
            for value in odd_values() + [("new", "a", "root"), ("revoke", "a"), list(STEPS[0]), STEPS]:
                self.no(LINE, STEPS[:at] + (value,) + STEPS[at:])

    def test_one_part_changed_at_any_depth(self):
        program = STEPS[:4]
        for value in changed(program):
            told = isinstance(value, tuple) and all(told_step(LINE, step) for step in value)
            self.assertIs(is_program(LINE, value), told, value)

    def test_drawn_programs(self):
        for world in machine_worlds():
            for chance in chances(2, 3):
                program = drawn_program(chance, world, 60, revokes=10)
                self.yes(world, program)
                self.assertIs(is_program(plain(world), program), not has_revoke(program))

    def test_long_programs(self):
        self.yes(LINE, STEPS * 75)
        self.yes(LINE, STEPS * 100)
        self.no(LINE, STEPS * 75 + (("new", "d", "x"),))

    def test_values_of_any_kind(self):
        for value in odd_values():
            self.assertIs(is_program(LINE, value), isinstance(value, tuple) and value == ())


class HasRevoke(unittest.TestCase):
    def test_none_one_first_one_last(self):
        others = STEPS[:-1]
        self.assertIs(has_revoke(()), False)
        for count in range(len(others) + 1):
            self.assertIs(has_revoke(others[:count]), False)
            self.assertIs(has_revoke(others[:count] + STEPS[-1:]), True)
            self.assertIs(has_revoke(STEPS[-1:] + others[:count]), True)
            self.assertIs(has_revoke(others[:count] + STEPS[-1:] + others[count:]), True)
        self.assertIs(has_revoke(STEPS[-1:] * 3), True)

    def test_the_word_elsewhere(self):
        program = (("new", "a", "revoke"), ("put", "a", "revoke", "revoke", "revoke"), ("same", "a", "revoke", "revoke"))
        self.assertIs(has_revoke(program), False)
        self.assertIs(has_revoke(program + (("revoke", "revoke"),)), True)


if __name__ == "__main__":
    unittest.main()
