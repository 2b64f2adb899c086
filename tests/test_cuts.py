"""The fewest gateways that separate two regions, beside all paths of the world, and what is cut in a machine."""

import itertools
import unittest

from samples import (APART, HUB, LINE, LONE, NAMESAKES, RING, TWIN, all_paths, changed, fixed_worlds, full_world,
                     odd_values, random_worlds, ring_world, table, wraps)
from slow import (ALIKE, NAMES, TREE, WIDE, SlowMachine, chances, drawn_program, drawn_step, is_reference,
                  machine_worlds, quiet_worlds, thing, trail)
from wraptrails.cuts import cut_variables, least_cut, shows_cut
from wraptrails.cycles import connected, is_path
from wraptrails.machines import Machine
from wraptrails.worlds import plain

# Two regions between which paths must turn aside for each other: the shortest one crosses both others.
DETOUR = (tuple("abcdef"), (
    ("p", ("a", "b"), "wrap"), ("q", ("b", "c"), "wrap"), ("r", ("c", "f"), "wrap"), ("s", ("a", "d"), "open"),
    ("t", ("c", "d"), "wrap"), ("u", ("b", "e"), "wrap"), ("v", ("e", "f"), "open")))
# Many paths that must share one open gateway and one region.
NARROW = (tuple("abcde"), (
    ("k", ("a", "b"), "wrap"), ("l", ("a", "b"), "wrap"), ("m", ("a", "b"), "wrap"), ("o", ("b", "c"), "open"),
    ("p", ("c", "d", "e"), "wrap"), ("q", ("c", "d"), "wrap"), ("r", ("c", "e"), "wrap"), ("s", ("d", "e"), "open")))


def small_worlds():
    """Worlds with few enough paths to list them all."""
    return ([LINE, RING, LONE, HUB, TWIN, NAMESAKES, APART, ALIKE, WIDE, TREE, DETOUR, NARROW] + fixed_worlds()[8:40:3]
            + random_worlds(90, 150, 5, 5, 4) + random_worlds(91, 40, 7, 8, 3) + random_worlds(92, 20, 10, 10, 2, full=True))


def all_routes(world):
    """All paths of the world by their two ends."""
    found = {pair: [] for pair in itertools.product(world[0], repeat=2)}
    for path in all_paths(world):
        found[path[0], path[-1]].append(path)
    return found


def walls(world, path):
    return [name for name in path[1::2] if name in wraps(world)]


def slow_shows(world, paths, value):
    """Whether a value is such a result; paths are all paths between the two regions."""
    if not isinstance(value, tuple) or len(value) not in (2, 3):
        return False
    if len(value) == 2:
        return value[0] == "open" and value[1] in paths and walls(world, value[1]) == []
    kind, names, chosen = value
    if kind != "cut" or not isinstance(names, tuple) or not isinstance(chosen, tuple) or len(names) != len(chosen):
        return False
    if any(name not in wraps(world) for name in names) or sorted(set(names)) != list(names):
        return False
    if any(path not in paths for path in chosen) or any(not set(names) & set(walls(world, path)) for path in paths):
        return False
    return all(not set(walls(world, one)) & set(walls(world, other)) for one, other in itertools.combinations(chosen, 2))


def fewest(world, paths):
    """The least number of wrapping gateways of which each path has one, by trying all sets of them."""
    for count in range(len(wraps(world)) + 1):
        for names in itertools.combinations(wraps(world), count):
            if all(set(names) & set(path[1::2]) for path in paths):
                return count
    return None


def spoiled(world, paths, result):
    """The result with a gateway or a path left out, doubled, exchanged or out of order, and others."""
    kind, names, chosen = result
    others = sorted(table(world))
    for at, name in enumerate(names):
        yield (kind, names[:at] + names[at + 1:], chosen)
        yield (kind, names[:at] + (name,) + names[at:], chosen)
        yield (kind, names[:at] + names[at + 1:], chosen[:at] + chosen[at + 1:])
        yield (kind, names[:at] + (name,) + names[at:], chosen[:at] + (chosen[at],) + chosen[at:])
        yield (kind, names, chosen[:at] + chosen[at + 1:])
        yield (kind, names, chosen[:at] + (chosen[at],) + chosen[at:])
        yield (kind, names, chosen[:at] + (chosen[at][::-1],) + chosen[at + 1:])
        yield (kind, names, chosen[:at] + (list(chosen[at]),) + chosen[at + 1:])
        for other in others:
            yield (kind, names[:at] + (other,) + names[at + 1:], chosen)
            yield (kind, tuple(sorted(names[:at] + (other,) + names[at + 1:])), chosen)
        for path in paths[:12]:
            yield (kind, names, chosen[:at] + (path,) + chosen[at + 1:])
    for other, path in itertools.product(others, paths[:6]):
        yield (kind, tuple(sorted((*names, other))), (*chosen, path))
    yield (kind, names[::-1], chosen)
    yield (kind, names, chosen[::-1])
    yield (kind, chosen, names)
    yield (kind, list(names), chosen)
    yield (kind, names, list(chosen))
    yield [kind, names, chosen]
    yield ("open", names, chosen)
    yield (kind, names)
    yield (kind, names, chosen, ())
    yield (names, chosen)
    for path in paths[:12]:
        yield ("open", path)


class LeastCut(unittest.TestCase):
    def check(self, world, pair, paths):
        result = least_cut(world, *pair)
        self.assertTrue(slow_shows(world, paths, result), (world, pair, result))
        self.assertIs(shows_cut(world, *pair, result), True)
        self.assertIs(type(result), tuple)
        if result[0] == "cut":
            self.assertEqual(len(result[1]), fewest(world, paths))
            self.assertEqual(len(result[2]), len(result[1]))
            self.assertTrue(all(is_path(world, path) for path in result[2]))
        else:
            self.assertIsNone(fewest(world, paths))

    def test_each_pair_of_regions(self):
        kinds = {"open": 0}
        for world in small_worlds():
            for pair, paths in all_routes(world).items():
                self.check(world, pair, paths)
                result = least_cut(world, *pair)
                kind = "open" if result[0] == "open" else len(result[1])
                kinds[kind] = kinds.get(kind, 0) + 1
        self.assertTrue({"open", 0, 1, 2, 3, 4} <= set(kinds), kinds)

    def test_one_region_twice(self):
        for world in fixed_worlds() + [full_world(("wrap", "open"))]:
            for region in world[0]:
                self.assertEqual(least_cut(world, region, region), ("open", (region,)))

    def test_one_zone(self):
        self.assertEqual(least_cut(TWIN, "a", "b"), ("open", ("a", "q", "b")))
        for size in range(2, 11):
            # The wrapping gateway leads from the last region to the first one; the open way is the long one.
            world = ring_world(size, ("open",) * (size - 1) + ("wrap",))
            kind, path = least_cut(world, world[0][0], world[0][-1])
            self.assertEqual((kind, path[::2]), ("open", world[0]))

    def test_no_path(self):
        self.assertEqual(least_cut(APART, "a", "c"), ("cut", (), ()))
        self.assertEqual(least_cut((("a", "b"), ()), "b", "a"), ("cut", (), ()))

    def test_paths_turn_aside(self):
        for one, other in (("a", "f"), ("f", "a"), ("d", "e"), ("b", "f"), ("a", "b")):
            kind, names, paths = least_cut(DETOUR, one, other)
            self.assertEqual((kind, len(names), len(paths)), ("cut", 2, 2))
        for one, other in (("a", "d"), ("e", "a")):
            kind, names, paths = least_cut(NARROW, one, other)
            self.assertEqual((kind, len(names), len(paths)), ("cut", 3, 3))

    def test_many_gateways_between_the_same_regions(self):
        ten = tuple("abcdefghij")
        world = full_world(("wrap",))
        for one, other in itertools.permutations(ten, 2):
            kind, names, paths = least_cut(world, one, other)
            self.assertEqual((kind, names), ("cut", tuple(table(world))))
            self.assertEqual(sorted(name for path in paths for name in path[1::2]), sorted(names))
            self.assertIs(shows_cut(world, one, other, (kind, names, paths)), True)

    def test_many_paths_through_one_open_gateway(self):
        for count in range(1, 10):
            gateways = tuple(("g" + at, ("a", "b"), "wrap") for at in "abcdefghi"[:count])
            world = (("a", "b", "c"), gateways + (("o", ("b", "c"), "open"),))
            kind, names, paths = least_cut(world, "a", "c")
            self.assertEqual((kind, names), ("cut", tuple(wraps(world))))
            self.assertEqual(sorted(paths), sorted(("a", name, "b", "o", "c") for name in names))

    def test_one_wrapping_gateway_of_many_members(self):
        ten = tuple("abcdefghij")
        world = (ten, (("h", ten, "wrap"),) + tuple(("o" + at, (at, "j"), "open") for at in "efghi"))
        for one, other in itertools.permutations(ten, 2):
            result = least_cut(world, one, other)
            self.assertEqual(result[0] == "open", one in "efghij" and other in "efghij")
            if result[0] == "cut":
                self.assertEqual(result[1], ("h",))
                self.assertIs(shows_cut(world, one, other, result), True)

    def test_without_noticed_gateways_one_suffices(self):
        for world in quiet_worlds():
            for one, other in itertools.permutations(world[0], 2):
                result = least_cut(world, one, other)
                names = () if result[0] == "open" else result[1]
                self.assertEqual(connected(world, one, other, without=names), result[0] == "open")
                self.assertLessEqual(len(names), 1)

    def test_plain_world(self):
        for world in small_worlds()[:40]:
            for pair, paths in all_routes(plain(world)).items():
                self.assertEqual(least_cut(plain(world), *pair)[0], "open" if paths else "cut")


class ShowsCut(unittest.TestCase):
    def test_results_with_a_change(self):
        agreed = {True: 0, False: 0}
        for world in small_worlds()[:12] + small_worlds()[28:90]:
            for pair, paths in all_routes(world).items():
                result = least_cut(world, *pair)
                if result[0] == "open":
                    result = ("cut", tuple(wraps(world)[:1]), tuple(paths[:1]))
                for value in spoiled(world, paths, result):
                    found = shows_cut(world, *pair, value)
                    self.assertIs(found, slow_shows(world, paths, value), (world, pair, value))
                    agreed[found] += 1
        self.assertGreater(agreed[True], 500)
        self.assertGreater(agreed[False], 5000)

    def test_other_results(self):
        # Every choice of gateways and paths in small worlds.
        for world in (RING, TWIN, NAMESAKES, ring_world(4, ("wrap", "open", "wrap", "wrap")), APART):
            for pair, paths in all_routes(world).items():
                for count in range(3):
                    choices = itertools.product(itertools.permutations(table(world), count),
                                                itertools.permutations(paths, count))
                    for names, chosen in choices:
                        value = ("cut", names, chosen)
                        self.assertIs(shows_cut(world, *pair, value), slow_shows(world, paths, value))

    def test_kind_open(self):
        self.assertIs(shows_cut(TWIN, "a", "b", ("open", ("a", "q", "b"))), True)
        self.assertIs(shows_cut(TWIN, "a", "b", ("open", ("a", "p", "b"))), False)
        self.assertIs(shows_cut(TWIN, "a", "b", ("open", ("b", "q", "a"))), False)
        self.assertIs(shows_cut(TWIN, "a", "b", ("open", ("a",))), False)
        self.assertIs(shows_cut(TWIN, "a", "a", ("open", ("a",))), True)
        self.assertIs(shows_cut(TWIN, "a", "a", ("open", ("b",))), False)
        self.assertIs(shows_cut(TWIN, "a", "a", ("cut", (), ())), False)
        self.assertIs(shows_cut(TWIN, "a", "b", ("cut", ("p",), (("a", "p", "b"),))), False)
        self.assertIs(shows_cut(TWIN, "a", "b", ("cut", ("q",), (("a", "q", "b"),))), False)
        self.assertIs(shows_cut(APART, "a", "c", ("cut", (), ())), True)
        self.assertIs(shows_cut(APART, "a", "c", ("open", ())), False)
        self.assertIs(shows_cut(plain(LINE), "a", "c", ("open", ("a", "p", "b", "q", "c"))), True)
        self.assertIs(shows_cut(LINE, "a", "c", ("open", ("a", "p", "b", "q", "c"))), False)

    def test_paths_between_other_regions(self):
        way = ("a", "p", "b", "q", "c")
        for world, kind in ((LINE, ("cut", ("q",))), (plain(LINE), ("open",))):
            for one, other, path in (("a", "c", way), ("b", "c", way[2:]), ("c", "b", way[:1:-1])):
                for start, end in itertools.product("abc", repeat=2):
                    value = kind + ((path,),) if kind[0] == "cut" else kind + (path,)
                    self.assertIs(shows_cut(world, start, end, value), (start, end) == (one, other), (start, end, value))

    def test_either_cut_of_a_line(self):
        way = ("a", "p", "b", "q", "c")
        self.assertIs(shows_cut(LINE, "a", "c", ("cut", ("p",), (way,))), True)
        self.assertIs(shows_cut(LINE, "a", "c", ("cut", ("q",), (way,))), True)
        self.assertIs(shows_cut(LINE, "a", "c", ("cut", ("p", "q"), (way, way))), False)
        self.assertIs(shows_cut(LINE, "a", "b", ("cut", ("q",), (way[:3],))), False)

    def test_any_values(self):
        for world, one, other in ((RING, "a", "c"), (LINE, "a", "c"), (TWIN, "a", "b"), (APART, "a", "c"), (LONE, "a", "a")):
            paths = all_routes(world)[one, other]
            for value in changed(least_cut(world, one, other)):
                self.assertIs(shows_cut(world, one, other, value), slow_shows(world, paths, value), value)
            for value in odd_values():
                self.assertIs(shows_cut(world, one, other, value), False)


class CutVariables(unittest.TestCase):
    def check(self, machine, slow, names):
        cut = []
        for region in slow.world[0]:
            for name in names:
                value = machine.value(region, name)
                if isinstance(value, tuple) and {gateway for gateway, _, _ in value[2]} & set(machine.revoked()):
                    cut.append((region, name))
        self.assertEqual(cut_variables(machine), tuple(sorted(cut)))
        slow_cut = [where for where, value in slow.variables.items()
                    if is_reference(value) and {gateway for gateway, _, _ in trail(value)} & slow.cut]
        self.assertEqual(cut, sorted(slow_cut, key=cut.index))
        return len(cut)

    def test_drawn_programs(self):
        seen = 0
        for world in machine_worlds():
            for chance in chances(93, 5):
                machine, slow = Machine(world), SlowMachine(world)
                for _ in range(60):
                    step = drawn_step(chance, slow, revokes=3)
                    slow.do(step)
                    machine.do(step)
                    if chance.random() < 0.1:
                        machine.collect()
                    seen += self.check(machine, slow, (*NAMES, "root"))
        self.assertGreater(seen, 2000)

    def test_in_worlds_without_noticed_gateways(self):
        # There, the references between regions that the revoked gateways separate are cut, and no others.
        seen = {True: 0, False: 0}
        for world in quiet_worlds():
            for chance in chances(96, 3):
                machine, slow = Machine(world), SlowMachine(world)
                for step in drawn_program(chance, world, 70, revokes=5):
                    slow.do(step)
                    machine.do(step)
                found = cut_variables(machine)
                for (region, name), value in slow.variables.items():
                    if is_reference(value):
                        apart = not connected(world, region, thing(value).home, without=machine.revoked())
                        self.assertEqual((region, name) in found, apart)
                        seen[apart] += 1
        self.assertGreater(min(seen.values()), 200)

    def test_without_a_revoke_step(self):
        for world in (LINE, RING, LONE, HUB):
            self.assertEqual(cut_variables(Machine(world)), ())
            machine = Machine(world)
            machine.run(drawn_program(chances(94, 1)[0], world, 60))
            self.assertEqual(cut_variables(machine), ())

    def test_order(self):
        machine = Machine(LINE)
        machine.run((("enter", "c", "a", "q", "b"), ("enter", "b", "z", "p", "a"), ("enter", "b", "aa", "p", "a"),
                     ("enter", "a", "b", "p", "b"), ("enter", "b", "a", "q", "c"), ("new", "a", "c"),
                     ("number", "b", "b", 5), ("drop", "c", "c"), ("revoke", "p")))
        self.assertEqual(cut_variables(machine), (("a", "b"), ("b", "aa"), ("b", "z")))
        machine.do(("revoke", "q"))
        self.assertEqual(cut_variables(machine), (("a", "b"), ("b", "a"), ("b", "aa"), ("b", "z"), ("c", "a")))
        machine.do(("drop", "b", "z"))
        self.assertEqual(cut_variables(machine), (("a", "b"), ("b", "a"), ("b", "aa"), ("c", "a")))

    def test_a_trail_that_crosses_it_not_last(self):
        machine = Machine(LINE)
        machine.run((("enter", "b", "x", "p", "a"), ("put", "b", "root", "f", "x"), ("enter", "c", "l", "q", "b"),
                     ("get", "c", "l", "f", "x"), ("revoke", "p")))
        self.assertEqual(cut_variables(machine), (("b", "x"), ("c", "x")))

    def test_the_machine_does_not_change(self):
        for world in (LINE, RING, HUB, ALIKE):
            machine = Machine(world)
            machine.run(drawn_program(chances(95, 1)[0], world, 80, revokes=4))
            before = (machine.answers(), machine.entries(), machine.needed(), machine.revoked())
            self.assertEqual(cut_variables(machine), cut_variables(machine.copied()))
            self.assertEqual((machine.answers(), machine.entries(), machine.needed(), machine.revoked()), before)


if __name__ == "__main__":
    unittest.main()
