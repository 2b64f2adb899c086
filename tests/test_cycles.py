import itertools
import unittest

from samples import (APART, HUB, LINE, LONE, NAMESAKES, RING, TWIN, all_cycles, all_paths, all_worlds, changed,
                     fixed_worlds, full_world, odd_values, pieces, random_worlds, ring_world, table, wraps)
from wraptrails.cycles import connected, girth, is_cycle, is_path, noticed, quiet, shortest_cycle, zones
from wraptrails.worlds import plain, with_open

TEN = tuple("abcdefghij")
SMALL = (LINE, RING, LONE, HUB, TWIN, NAMESAKES, APART)


class IsPath(unittest.TestCase):
    def test_every_row_of_names(self):
        for world in (LONE, HUB, TWIN, NAMESAKES):
            paths = set(all_paths(world))
            names = sorted({*world[0], *table(world), "x"})
            for length in range(6):
                for row in itertools.product(names, repeat=length):
                    self.assertIs(is_path(world, row), row in paths, row)

    def test_every_path(self):
        for world in all_worlds():
            for path in all_paths(world)[:200]:
                self.assertIs(is_path(world, path), True)

    def test_every_length(self):
        world = (TEN, tuple(("g" + TEN[at], TEN[at:at + 2], "wrap") for at in range(9)))
        path = ("a",)
        for at in range(9):
            path += ("g" + TEN[at], TEN[at + 1])
            self.assertIs(is_path(world, path), True)
            self.assertIs(is_path(world, path[::-1]), True)
            self.assertIs(is_path(world, path[:-1]), False)
            self.assertIs(is_path(world, path[1:]), False)

    def test_wrong_paths(self):
        wrong = [(), ("x",), ("p",), ("a", "p"), ("a", "p", "a"), ("a", "p", "c"), ("a", "q", "b"), ("a", "x", "b"),
                 ("a", "p", "b", "p", "a"), ("a", "p", "b", "q", "c", "r", "a"), ("a", "b", "p")]
        for value in wrong:
            self.assertIs(is_path(RING, value), False, value)
        # A gateway with three members twice, although the regions are different.
        self.assertIs(is_path(HUB, ("a", "h", "b", "h", "c")), False)
        self.assertIs(is_path(HUB, ("a", "h", "c")), True)

    def test_two_gateways_that_share_two_members(self):
        self.assertIs(is_path(TWIN, ("a", "p", "b")), True)
        self.assertIs(is_path(TWIN, ("b", "q", "a")), True)
        self.assertIs(is_path(TWIN, ("a", "p", "b", "q", "a")), False)

    def test_one_part_changed_at_any_depth(self):
        for world in SMALL:
            paths = all_paths(world)
            for path in paths:
                for value in changed(path):
                    self.assertIs(is_path(world, value), value in paths, value)

    def test_values_of_any_kind(self):
        for world in SMALL:
            paths = all_paths(world)
            for value in odd_values():
                self.assertIs(is_path(world, value), value in paths, value)


class IsCycle(unittest.TestCase):
    def test_every_row_of_pairs(self):
        for world in (LONE, HUB, TWIN, NAMESAKES, RING):
            cycles = set(all_cycles(world))
            pairs = list(itertools.product(world[0], table(world)))
            for length in range(5 if len(pairs) < 9 else 4):
                for row in itertools.product(pairs, repeat=length):
                    self.assertIs(is_cycle(world, row), row in cycles, row)

    def test_every_cycle(self):
        for world in all_worlds():
            for cycle in all_cycles(world)[:200]:
                self.assertIs(is_cycle(world, cycle), True)

    def test_every_length(self):
        for size in range(2, 11):
            world = ring_world(size, ("wrap", "open"))
            cycle = tuple((region, "g" + region) for region in world[0])
            for at in range(size):
                self.assertIs(is_cycle(world, cycle[at:] + cycle[:at]), True)
                self.assertIs(is_cycle(world, cycle[:at] + cycle[at + 1:]), False)
            self.assertIs(is_cycle(world, cycle[::-1]), size == 2)
            back = tuple((cycle[at][0], cycle[at - 1][1]) for at in range(size - 1, -1, -1))
            self.assertIs(is_cycle(world, back), True)

    def test_wrong_cycles(self):
        good = (("a", "p"), ("b", "q"), ("c", "r"))
        self.assertIs(is_cycle(RING, good), True)
        wrong = [(), good[:1], good[:2], good + good, good + good[:1], (("a", "p"), ("b", "p")),
                 (("a", "p"), ("a", "p")), (("p", "a"), ("q", "b"), ("r", "c")), (("a", "p"), ("b", "q"), ("c", "x")),
                 (("a", "p"), ("b", "q"), ("x", "r")), (("a", "q"), ("b", "r"), ("c", "p")), ("a", "p", "b", "q", "c", "r"),
                 (("a", "p", "b"), ("b", "q"), ("c", "r")), (("a",), ("b", "q"), ("c", "r"))]
        for value in wrong:
            self.assertIs(is_cycle(RING, value), False, value)

    def test_a_gateway_alone_is_no_cycle(self):
        self.assertEqual(all_cycles(HUB), [])
        for size in range(1, 4):
            for regions in itertools.permutations("abc", size):
                self.assertIs(is_cycle(HUB, tuple((region, "h") for region in regions)), False)

    def test_two_gateways_that_share_two_members(self):
        self.assertIs(is_cycle(TWIN, (("a", "p"), ("b", "q"))), True)
        self.assertIs(is_cycle(TWIN, (("a", "q"), ("b", "p"))), True)
        self.assertIs(is_cycle(TWIN, (("a", "p"), ("b", "p"))), False)
        self.assertIs(is_cycle(TWIN, (("a", "p"), ("a", "q"))), False)

    def test_repeated_region(self):
        world = (("a", "b", "c"), tuple((name, ("a", "b", "c"), "wrap") for name in "pqrs"))
        self.assertIs(is_cycle(world, (("a", "p"), ("b", "q"), ("c", "r"))), True)
        self.assertIs(is_cycle(world, (("a", "p"), ("b", "q"), ("a", "r"), ("c", "s"))), False)

    def test_repeated_gateway(self):
        world = (("a", "b", "c", "d"), (("p", ("a", "b", "c", "d"), "wrap"), ("q", ("b", "c"), "wrap"),
                                       ("r", ("a", "d"), "wrap")))
        self.assertIs(is_cycle(world, (("a", "p"), ("b", "q"), ("c", "p"), ("d", "r"))), False)

    def test_one_part_changed_at_any_depth(self):
        for world in SMALL:
            cycles = all_cycles(world)
            for cycle in cycles:
                for value in changed(cycle):
                    self.assertIs(is_cycle(world, value), value in cycles, value)

    def test_values_of_any_kind(self):
        for world in SMALL:
            for value in odd_values():
                self.assertIs(is_cycle(world, value), False, value)


class Connected(unittest.TestCase):
    def check(self, world, without):
        names = [name for name in table(world) if name not in without]
        groups = pieces(world, names)
        for one, other in itertools.product(world[0], repeat=2):
            expected = any(one in group and other in group for group in groups)
            self.assertIs(connected(world, one, other, without=without), expected)

    def test_every_pair(self):
        for world in all_worlds():
            names = tuple(table(world))
            for without in ((), names, names[:1], names[1:], names[::2], names[::-1] + names, names[1:2] * 2):
                self.check(world, without)

    def test_without_left_out(self):
        for world in fixed_worlds():
            for one, other in itertools.product(world[0], repeat=2):
                self.assertIs(connected(world, one, other), connected(world, one, other, without=()))

    def test_kinds_do_not_matter(self):
        for world in fixed_worlds():
            for one, other in itertools.product(world[0], repeat=2):
                self.assertIs(connected(world, one, other), connected(plain(world), one, other))

    def test_a_region_with_itself(self):
        self.assertIs(connected(LONE, "a", "a"), True)
        self.assertIs(connected(RING, "b", "b", without=("p", "q", "r")), True)

    def test_by_name_only(self):
        with self.assertRaises(TypeError):
            connected(LINE, "a", "c", ("q",))


class Zones(unittest.TestCase):
    def test_all_worlds(self):
        for world in all_worlds() + [full_world(("open",)), full_world(("wrap",)), full_world(("open", "wrap"))]:
            opened = [name for name, ends, kind in world[1] if kind == "open"]
            expected = tuple(sorted(tuple(sorted(group)) for group in pieces(world, opened)))
            self.assertEqual(zones(world), expected)

    def test_some_worlds(self):
        self.assertEqual(zones(LONE), (("a",),))
        self.assertEqual(zones(LINE), (("a",), ("b",), ("c",)))
        self.assertEqual(zones(plain(LINE)), (("a", "b", "c"),))
        self.assertEqual(zones(with_open(RING, ("r",))), (("a", "c"), ("b",)))
        self.assertEqual(zones(plain(HUB)), (("a", "b", "c"),))
        self.assertEqual(zones(plain(APART)), (("a", "b"), ("c", "d")))


class OnCycles(unittest.TestCase):
    """quiet, noticed, girth and shortest_cycle, compared with all cycles."""

    def check(self, world):
        cycles = all_cycles(world)
        on_cycle = {name for cycle in cycles for region, name in cycle}
        wrapping = wraps(world)
        self.assertEqual(quiet(world), tuple(name for name in table(world) if name not in on_cycle))
        self.assertEqual(noticed(world), tuple(name for name in wrapping if name in on_cycle))
        told = [len(cycle) for cycle in cycles if any(name in wrapping for region, name in cycle)]
        self.check_shortest(world, min(told, default=None))

    def check_shortest(self, world, count):
        self.assertEqual(girth(world), count)
        cycle = shortest_cycle(world)
        if count is None:
            self.assertIsNone(cycle)
            return
        self.assertIs(is_cycle(world, cycle), True)
        self.assertEqual(len(cycle), count)
        self.assertTrue(any(name in wraps(world) for region, name in cycle))

    def test_all_worlds(self):
        worlds = all_worlds()
        girths = [girth(world) for world in worlds]
        for count in (None, 2, 3, 4, 5, 10):
            self.assertIn(count, girths)
        for world in worlds:
            self.check(world)

    def test_every_choice_of_kinds(self):
        for world in fixed_worlds()[-8:] + random_worlds(5, 12, 5, 5, 3):
            names = tuple(table(world))
            for size in range(len(names) + 1):
                for chosen in list(itertools.combinations(names, size))[:8]:
                    self.check(with_open(world, chosen))

    def test_no_cycles(self):
        for world in (LONE, LINE, HUB, APART, (TEN, ())):
            self.assertEqual(quiet(world), tuple(table(world)))
            self.assertEqual(noticed(world), ())
            self.check_shortest(world, None)

    def test_rings(self):
        for size in range(2, 11):
            for kinds in (("wrap",), ("open", "wrap"), ("open",) * (size - 1) + ("wrap",)):
                world = ring_world(size, kinds)
                self.assertEqual(quiet(world), ())
                self.assertEqual(noticed(world), tuple(wraps(world)))
                self.check_shortest(world, size)
            self.assertEqual(quiet(ring_world(size, ("open",))), ())
            self.assertEqual(noticed(ring_world(size, ("open",))), ())
            self.check_shortest(ring_world(size, ("open",)), None)

    def test_a_shorter_cycle_of_open_gateways_does_not_count(self):
        world = (("a", "b", "c"), (("p", ("a", "b"), "open"), ("q", ("b", "c"), "open"), ("r", ("a", "c"), "wrap"),
                                   ("s", ("a", "b"), "open")))
        self.assertEqual(noticed(world), ("r",))
        self.check_shortest(world, 3)

    def test_ten_gateways_between_all_of_ten_regions(self):
        for kinds in (("wrap",), ("wrap", "open")):
            world = full_world(kinds)
            self.assertEqual(quiet(world), ())
            self.assertEqual(noticed(world), tuple(wraps(world)))
            self.check_shortest(world, 2)
        self.assertEqual(quiet(full_world(("open",))), ())
        self.assertEqual(noticed(full_world(("open",))), ())
        self.check_shortest(full_world(("open",)), None)

    def sparse_worlds(self):
        """Worlds of ten regions and ten gateways, few of which wrap, so that their cycles are longer."""
        return [world for members in (2, 3) for world in random_worlds(
            18, 60, 10, 10, members, kinds=("open",) * 6 + ("wrap",), full=True)]

    def test_large_worlds(self):
        """A gateway is on no cycle exactly if each of its members falls into a piece of its own without it."""
        for world in random_worlds(6, 100, 10, 10, 5) + self.sparse_worlds():
            names = list(table(world))
            silent = []
            for name in names:
                rest = pieces(world, [other for other in names if other != name])
                ends = table(world)[name]
                if all(len(group & set(ends)) < 2 for group in rest):
                    silent.append(name)
            self.assertEqual(quiet(world), tuple(silent))
            self.assertEqual(noticed(world), tuple(name for name in wraps(world) if name not in silent))
            self.assertEqual(girth(world) is None, noticed(world) == ())
            self.check_shortest(world, girth(world))
            shorter = all_cycles(world, (girth(world) or 2) - 1)
            self.assertFalse([cycle for cycle in shorter if any(name in wraps(world) for region, name in cycle)])

    def test_somewhat_more_than_the_limits(self):
        world = ring_world(14, ("wrap", "open"))
        self.assertEqual(girth(world), 14)
        self.assertEqual(len(shortest_cycle(world)), 14)
        self.assertEqual(len(zones(world)), 7)


if __name__ == "__main__":
    unittest.main()
