import re
import unittest

from samples import (APART, HUB, LINE, LONE, NAMESAKES, RING, TWIN, all_worlds, changed, full_world, nested,
                     odd_values, ring_world)
from wraptrails.errors import UnknownGateway
from wraptrails.worlds import is_world, members, plain, with_open

ELEVEN = tuple("abcdefghijk")


def is_told_name(value):
    return isinstance(value, str) and re.fullmatch("[a-z]{1,8}", value) is not None


def in_order(values):
    return tuple(sorted(set(values))) == values


def is_told_gateway(regions, value):
    if not (isinstance(value, tuple) and len(value) == 3 and is_told_name(value[0]) and isinstance(value[1], tuple)):
        return False
    known = all(isinstance(region, str) and region in regions for region in value[1])
    return known and len(value[1]) >= 2 and in_order(value[1]) and value[2] in ["wrap", "open"]


def is_told_world(value):
    """What the document says of a world, once more and with other means."""
    if not (isinstance(value, tuple) and len(value) == 2 and all(isinstance(part, tuple) for part in value)):
        return False
    regions, gateways = value
    if not (len(regions) in range(1, 11) and all(map(is_told_name, regions)) and in_order(regions)):
        return False
    if not (len(gateways) <= 10 and all(is_told_gateway(regions, gateway) for gateway in gateways)):
        return False
    return in_order(gateways) and len({gateway[0] for gateway in gateways}) == len(gateways)


class IsWorld(unittest.TestCase):
    def yes(self, value):
        self.assertIs(is_world(value), True, value)

    def no(self, value):
        self.assertIs(is_world(value), False, value)

    def test_worlds(self):
        for world in all_worlds() + [full_world(("wrap", "open"))]:
            self.yes(world)

    def test_number_of_regions(self):
        self.no(((), ()))
        for count in range(1, 11):
            self.yes((ELEVEN[:count], ()))
        self.no((ELEVEN, ()))

    def test_number_of_gateways(self):
        gateways = tuple((name, ("a", "b"), "wrap") for name in ELEVEN)
        for count in range(11):
            self.yes((("a", "b"), gateways[:count]))
        self.no((("a", "b"), gateways))

    def test_number_of_members(self):
        for count in range(11):
            value = (ELEVEN[:10], (("p", ELEVEN[:count], "open"),))
            self.assertIs(is_world(value), count >= 2)

    def test_names(self):
        good = ["a", "z", "abcdefgh", "zzzzzzzz", "wrap", "open", "root"]
        bad = ["", "abcdefghi", "A", "aB", "a1", "1", "a b", " a", "a ", "a\n", "_", "a_b", "-", "\u00e4", "\u0430",
               "\u00df", "\uff41", "\x00", "x" * 20000]
        for name in good:
            self.yes(((name,), ()))
            self.yes((("a", "b"), ((name, ("a", "b"), "wrap"),)))
        for name in bad:
            self.no(((name,), ()))
            self.no((("a", "b"), ((name, ("a", "b"), "wrap"),)))

    def test_every_sign_in_a_name(self):
        for code in range(0x250):
            self.assertIs(is_world(((chr(code),), ())), chr(code) in "abcdefghijklmnopqrstuvwxyz")

    def test_order(self):
        self.no((("b", "a"), ()))
        self.no((("a", "a"), ()))
        self.no((("a", "c", "b"), ()))
        self.yes((("a", "aa", "b"), ()))
        self.no((("aa", "a"), ()))
        for ends in (("b", "a"), ("a", "a"), ("a", "a", "b"), ("a", "b", "b"), ("a", "c", "b"), ("a", "x")):
            self.no((("a", "b", "c"), (("p", ends, "wrap"),)))
        p, q, r = RING[1]
        self.yes((RING[0], (p, q, r)))
        for gateways in ((q, p), (p, r, q), (r, q, p), (p, p), (p, q, q)):
            self.no((RING[0], gateways))

    def test_two_gateways_of_one_name(self):
        self.no((("a", "b", "c"), (("p", ("a", "b"), "wrap"), ("p", ("b", "c"), "wrap"))))
        self.no((("a", "b"), (("p", ("a", "b"), "open"), ("p", ("a", "b"), "wrap"))))

    def test_gateway_and_region_of_one_name(self):
        self.yes(NAMESAKES)
        self.yes((("a", "b"), (("a", ("a", "b"), "wrap"),)))

    def test_kinds(self):
        for kind in ("wrap", "open"):
            self.yes((("a", "b"), (("p", ("a", "b"), kind),)))
        for kind in ("", "Wrap", "wrapp", "closed", "wrap ", "w", None, True, 0, ("wrap",), ["wrap"], {"wrap": 1}):
            self.no((("a", "b"), (("p", ("a", "b"), kind),)))

    def test_values_of_any_kind(self):
        for value in odd_values():
            self.assertIs(is_world(value), value == (("a",), ()))
        for wrap in (lambda value: (value,), lambda value: [value], lambda value: (value, value),
                     lambda value: ((value,), ())):
            self.no(nested(12, wrap))

    def test_one_part_changed_at_any_depth(self):
        for world in (LINE, RING, LONE, HUB, TWIN, NAMESAKES, APART, ring_world(5, ("wrap", "open"))):
            verdicts = set()
            for value in changed(world):
                verdict = is_world(value)
                self.assertIs(verdict, is_told_world(value), value)
                verdicts.add(verdict)
            self.assertEqual(verdicts, {True, False})


class Members(unittest.TestCase):
    def test_every_gateway(self):
        for world in all_worlds():
            for name, ends, kind in world[1]:
                self.assertEqual(members(world, name), ends)

    def test_namesakes(self):
        self.assertEqual(members(NAMESAKES, "b"), ("a", "b", "c"))
        self.assertEqual(members(NAMESAKES, "c"), ("b", "c"))

    def test_unknown_names(self):
        for world in (LONE, LINE, NAMESAKES, full_world(("wrap",))):
            known = [name for name, ends, kind in world[1]]
            for value in odd_values() + list(world[0]) + list(world[1]) + [world, "pp", "P", "ga "]:
                if value not in known:
                    with self.assertRaises(UnknownGateway) as caught:
                        members(world, value)
                    self.assertIs(type(caught.exception), UnknownGateway)
                    self.assertIs(caught.exception.name, value)


class WithOpen(unittest.TestCase):
    def check(self, world, names):
        expected = tuple((name, ends, "open" if name in names else "wrap") for name, ends, kind in world[1])
        result = with_open(world, names)
        self.assertEqual(result, (world[0], expected))
        self.assertIs(is_world(result), True)

    def test_every_choice(self):
        for world in all_worlds():
            known = tuple(name for name, ends, kind in world[1])
            for at in range(min(2 ** len(known), 64)):
                self.check(world, tuple(name for step, name in enumerate(known) if at >> step & 1))
            self.check(world, known)

    def test_any_order_and_twice(self):
        self.check(RING, ("r", "p"))
        self.check(RING, ("q", "q"))
        self.check(RING, ("r", "q", "p", "q", "r"))
        self.check(plain(RING), ("q", "q"))
        self.check(NAMESAKES, ("c", "a"))

    def test_empty(self):
        for world in (LONE, LINE, TWIN, plain(RING)):
            self.check(world, ())

    def test_the_first_unknown_name(self):
        for world in (LONE, LINE, NAMESAKES):
            known = tuple(name for name, ends, kind in world[1])
            for value in odd_values():
                if value in known:
                    continue
                for names in ((value,), known + (value,), (value,) + known, known + known + (value, "zz"),
                              (value, None), known[:1] + (value, [], "zz") + known):
                    with self.assertRaises(UnknownGateway) as caught:
                        with_open(world, names)
                    self.assertIs(type(caught.exception), UnknownGateway)
                    self.assertIs(caught.exception.name, value)

    def test_a_region_is_no_gateway(self):
        with self.assertRaises(UnknownGateway) as caught:
            with_open(LINE, ("p", "a", "b"))
        self.assertEqual(caught.exception.name, "a")


class Plain(unittest.TestCase):
    def test_all_open(self):
        for world in all_worlds():
            result = plain(world)
            self.assertEqual(result, (world[0], tuple((name, ends, "open") for name, ends, kind in world[1])))
            self.assertEqual(plain(result), result)

    def test_same_as_all_names(self):
        self.assertEqual(plain(RING), with_open(RING, ("r", "p", "q")))
        self.assertEqual(plain(LONE), LONE)


if __name__ == "__main__":
    unittest.main()
