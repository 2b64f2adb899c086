import itertools
import random
import unittest

from samples import (APART, HUB, LINE, LONE, NAMESAKES, RING, TWIN, all_crossings, changed, fixed_worlds, follows,
                     odd_values, random_trail, random_worlds, ring_world)
from wraptrails.trails import crossed, inward, is_trail, outward
from wraptrails.worlds import plain, with_open

AB = ("p", "a", "b")
BA = ("p", "b", "a")
BC = ("q", "b", "c")
CB = ("q", "c", "b")
CA = ("r", "c", "a")


def worlds_with_trails():
    worlds = fixed_worlds() + random_worlds(7, 40, 5, 5, 4)
    return [world for world in worlds if all_crossings(world)]


def some_trails(seed, world, count, longest=60):
    chance = random.Random(seed)
    return [random_trail(chance, world, chance.randint(0, longest)) for _ in range(count)]


class IsTrail(unittest.TestCase):
    def yes(self, world, value):
        self.assertIs(is_trail(world, value), True, value)

    def no(self, world, value):
        self.assertIs(is_trail(world, value), False, value)

    def told(self, world, value):
        crossings = all_crossings(world)
        if not isinstance(value, tuple) or not all(part in crossings for part in value):
            return False
        return all(follows(world, before, behind) for before, behind in zip(value, value[1:]))

    def test_every_row_of_crossings(self):
        opened = with_open(RING, ("q",))
        for world in (LINE, RING, HUB, TWIN, NAMESAKES, APART, opened, plain(RING)):
            crossings = all_crossings(world)
            for length in range(4):
                for row in itertools.product(crossings, repeat=length):
                    self.assertIs(is_trail(world, row), self.told(world, row), row)

    def test_every_length(self):
        for length in range(61):
            trail = ((AB, BC, CA) * 20)[:length]
            self.yes(RING, trail)
            self.assertIs(is_trail(LINE, trail), length < 3)
        chance = random.Random(8)
        for length in range(61):
            trail = random_trail(chance, ring_world(6, ("wrap", "wrap", "open")), length)
            self.yes(ring_world(6, ("wrap", "wrap", "open")), trail)

    def test_long_trails(self):
        trail = (AB, BC, CA) * 170
        self.yes(RING, trail)
        self.no(RING, trail + (AB, AB))
        self.no(RING, trail[:250] + trail[251:])

    def test_random_trails(self):
        for world in worlds_with_trails():
            for trail in some_trails(9, world, 5):
                self.yes(world, trail)

    def test_empty(self):
        for world in (LONE, LINE, plain(LINE)):
            self.yes(world, ())

    def test_an_open_gateway(self):
        self.yes(TWIN, (("p", "a", "b"),))
        self.no(TWIN, (("q", "a", "b"),))
        self.no(plain(LINE), (AB,))

    def test_wrong_crossings(self):
        for crossing in [("p", "a", "a"), ("p", "b", "b"), ("p", "a", "c"), ("p", "c", "a"), ("x", "a", "b"), ("a", "a", "b"),
                         ("p", "a", "x"), ("p", "p", "b"), ("a", "p", "b"), ("p", "a"), ("p",), (), ("p", "a", "b", "a"),
                         ["p", "a", "b"], "pab", None, True]:
            self.no(RING, (crossing,))
            self.no(RING, (AB, BC, crossing))
            self.no(RING, (crossing, BC, CA))
        self.no(RING, AB)
        self.no(RING, [AB])
        self.no(RING, [])

    def test_two_crossings_of_one_gateway_in_turn(self):
        for row in ((AB, BA), (AB, AB), (BC, CA, ("r", "a", "c")), (AB, BC, CB)):
            self.no(RING, row)
        self.no(HUB, (("h", "a", "b"), ("h", "b", "c")))
        # Again, but with another gateway between.
        self.yes(RING, (AB, BC, CA, AB))
        # In one zone all the same.
        zone = with_open(RING, ("q", "r"))
        self.no(zone, (AB, AB))
        self.no(zone, (AB, BA))

    def test_zones(self):
        self.no(LINE, (AB, CB))
        world = (("a", "b", "c", "d"), (("p", ("a", "b"), "wrap"), ("q", ("c", "d"), "wrap"), ("s", ("b", "c"), "open")))
        self.yes(world, (("p", "a", "b"), ("q", "c", "d")))
        self.yes(world, (("q", "d", "c"), ("p", "b", "a")))
        self.no(world, (("p", "a", "b"), ("q", "d", "c")))
        self.no(world, (("p", "b", "a"), ("q", "c", "d")))
        self.no(with_open(world, ()), (("p", "a", "b"), ("q", "c", "d")))

    def test_a_zone_through_two_open_gateways(self):
        world = (("a", "b", "c", "d", "e"), (
            ("p", ("a", "b"), "wrap"), ("q", ("d", "e"), "wrap"), ("s", ("b", "c"), "open"), ("t", ("c", "d"), "open")))
        self.yes(world, (("p", "a", "b"), ("q", "d", "e")))
        self.no(with_open(world, ("s",)), (("p", "a", "b"), ("q", "d", "e")))

    def test_one_part_changed_at_any_depth(self):
        cases = [(LINE, (AB, BC)), (RING, (AB, BC, CA)), (RING, (AB,)), (HUB, (("h", "a", "c"),)), (LONE, ()),
                 (TWIN, (("p", "b", "a"),)), (NAMESAKES, (("a", "a", "b"), ("c", "c", "b")))]
        for world, trail in cases:
            self.yes(world, trail)
            for value in changed(trail):
                self.assertIs(is_trail(world, value), self.told(world, value), value)

    def test_values_of_any_kind(self):
        for world in (LONE, LINE, RING, plain(RING)):
            for value in odd_values():
                self.assertIs(is_trail(world, value), value == () and isinstance(value, tuple), value)


class Crossed(unittest.TestCase):
    def test_home(self):
        self.assertEqual(crossed((AB,), "p", "b", "a"), ())
        self.assertEqual(crossed((CB, BA), "p", "a", "b"), (CB,))
        # The end alone tells whether a value is home, whatever the start.
        self.assertEqual(crossed((AB,), "p", "c", "a"), ())
        self.assertEqual(crossed((("h", "a", "b"),), "h", "c", "a"), ())

    def test_replaced(self):
        self.assertEqual(crossed((("h", "a", "b"),), "h", "b", "c"), (("h", "a", "c"),))
        self.assertEqual(crossed((BC, ("h", "a", "b")), "h", "b", "c"), (BC, ("h", "a", "c")))
        self.assertEqual(crossed((AB,), "p", "x", "b"), (AB,))

    def test_appended(self):
        self.assertEqual(crossed((), "p", "a", "b"), (AB,))
        self.assertEqual(crossed((AB,), "q", "b", "c"), (AB, BC))
        # Only the last crossing matters.
        self.assertEqual(crossed((AB, BC), "p", "b", "a"), (AB, BC, BA))

    def test_any_three_names(self):
        trails = [(), (AB,), (AB, BC), (BC, AB), (("a", "a", "b"),), (("h", "b", "c"),)]
        for trail in trails:
            for gateway, start, end in itertools.product(("a", "p", "q", "h", "new"), ("a", "b", "c"), ("a", "b", "c")):
                last = trail[-1] if trail else None
                if last is not None and last[0] == gateway and last[1] == end:
                    expected = trail[:-1]
                elif last is not None and last[0] == gateway:
                    expected = trail[:-1] + ((gateway, last[1], end),)
                else:
                    expected = trail + ((gateway, start, end),)
                self.assertEqual(crossed(trail, gateway, start, end), expected)

    def test_a_trail_stays_a_trail(self):
        for world in worlds_with_trails():
            for trail in some_trails(10, world, 5, 12):
                for gateway, start, end in all_crossings(world):
                    after = crossed(trail, gateway, start, end)
                    last = trail[-1] if trail else None
                    if last is None or follows(world, last, (gateway, start, end)) or last[0] == gateway:
                        self.assertIs(is_trail(world, after), True)

    def test_there_and_back(self):
        for world in worlds_with_trails():
            for trail in some_trails(11, world, 5, 12):
                for gateway, start, end in all_crossings(world):
                    if not trail or trail[-1][0] != gateway:
                        there = crossed(trail, gateway, start, end)
                        self.assertEqual(crossed(there, gateway, end, start), trail)


def through(trail, crossings):
    """The rules of a crossing, once more, for one after another."""
    rest = list(trail)
    for gateway, start, end in crossings:
        last = rest.pop() if rest and rest[-1][0] == gateway else None
        if last is None:
            rest.append((gateway, start, end))
        elif last[1] != end:
            rest.append((gateway, last[1], end))
    return tuple(rest)


class Along(unittest.TestCase):
    def test_the_empty_trail(self):
        for trail in ((), (AB,), (AB, BC, CA)):
            self.assertEqual(inward(trail, ()), trail)
            self.assertEqual(outward(trail, ()), trail)

    def test_one_crossing(self):
        self.assertEqual(inward((), (AB,)), (BA,))
        self.assertEqual(inward((AB,), (AB,)), ())
        self.assertEqual(outward((), (AB,)), (AB,))
        self.assertEqual(outward((BA,), (AB,)), ())
        self.assertEqual(outward((AB,), (AB,)), (AB,))
        self.assertEqual(inward((("p", "c", "b"),), (AB,)), (("p", "c", "a"),))

    def test_the_order(self):
        self.assertEqual(inward((), (AB, BC)), (CB, BA))
        self.assertEqual(outward((), (AB, BC)), (AB, BC))
        self.assertEqual(inward((AB, BC), (AB, BC)), ())
        self.assertEqual(inward((AB,), (AB, BC)), (AB, CB, BA))

    def test_a_reference_through_itself(self):
        for world in worlds_with_trails():
            for trail in some_trails(12, world, 5):
                self.assertEqual(inward(trail, trail), ())
                self.assertEqual(outward((), trail), trail)

    def test_any_two_trails(self):
        worlds = worlds_with_trails()
        for at, world in enumerate(worlds):
            other = worlds[at - 1]
            pairs = itertools.product(some_trails(13, world, 6), some_trails(14, world, 4) + some_trails(15, other, 2))
            for trail, along in pairs:
                back = [(gateway, end, start) for gateway, start, end in along[::-1]]
                self.assertEqual(inward(trail, along), through(trail, back))
                self.assertEqual(outward(trail, along), through(trail, along))

    def test_outward_behind_inward(self):
        """What is stored through a reference is read back the same, if the value stands where the reference does.

        This needs worlds in which no zone holds two members of a wrapping gateway.
        """
        pairs = 0
        for world in worlds_with_trails():
            if any(follows(world, ("x", "", start), ("y", end, "")) for gateway, start, end in all_crossings(world)):
                continue
            for trail in some_trails(16, world, 12, 9):
                for along in some_trails(17, world, 12, 9):
                    if not trail or not along or follows(world, ("x", *trail[-1][1:]), ("y", along[-1][2], "")):
                        self.assertEqual(outward(inward(trail, along), along), trail)
                        pairs += bool(trail and along)
        self.assertGreater(pairs, 1000)

    def test_outward_behind_inward_elsewhere(self):
        self.assertEqual(outward(inward((BA,), (AB,)), (AB,)), ())
        self.assertEqual(outward(inward((AB,), (AB,)), (AB,)), (AB,))
        self.assertEqual(outward(inward((("h", "a", "b"),), (("h", "a", "c"),)), (("h", "a", "c"),)), (("h", "a", "c"),))

    def test_long_trails(self):
        trail = (AB, BC, CA) * 166
        self.assertEqual(inward(trail, trail), ())
        self.assertEqual(outward(inward((), trail), trail), ())
        self.assertEqual(len(outward(trail, trail)), 2 * len(trail))


if __name__ == "__main__":
    unittest.main()
