"""Texts of worlds, steps, programs, answers and trails."""

import re
import unittest

from samples import HUB, LINE, LONE, NAMESAKES, RING, TWIN, all_worlds, full_world, random_trail, random_worlds
from slow import ALIKE, SlowMachine, chances, drawn_program, machine_worlds
from wraptrails.showing import show_answer, show_program, show_step, show_trail, show_world

NUMBERS = (0, 1, -1, 7, -7, 10, -10, 100, -100, 9, 123456789, 10 ** 59, -10 ** 59, 10 ** 60 - 1, -10 ** 60 + 1,
           int("1234567890" * 6), -int("9876543210" * 6))


def shown_worlds():
    return (all_worlds() + machine_worlds() + [full_world(("wrap", "open")), full_world(("wrap",)), full_world(("open",)),
            (tuple("abcdefghij"), ())] + random_worlds(130, 60, 10, 10, 10))


class Worlds(unittest.TestCase):
    def test_some(self):
        self.assertEqual(show_world(LONE), "regions a")
        self.assertEqual(show_world((("a", "b"), ())), "regions a b")
        self.assertEqual(show_world(LINE), "regions a b c\nwrap p a b\nwrap q b c")
        self.assertEqual(show_world(TWIN), "regions a b\nwrap p a b\nopen q a b")
        self.assertEqual(show_world(HUB), "regions a b c\nwrap h a b c")
        self.assertEqual(show_world(NAMESAKES), "regions a b c\nwrap a a b\nopen b a b c\nwrap c b c")
        self.assertEqual(show_world(ALIKE), "regions a aa aab baa root\nwrap a a aa\nwrap aa aa aab\nopen aab aab baa\n"
                                            "wrap open a baa root\nwrap root aa root\nopen wrap a root")

    def test_ten_of_each(self):
        lines = show_world(full_world(("wrap", "open"))).split("\n")
        self.assertEqual(lines[0], "regions a b c d e f g h i j")
        self.assertEqual(lines[1], "wrap ga a b c d e f g h i j")
        self.assertEqual(lines[10], "open gj a b c d e f g h i j")
        self.assertEqual(len(lines), 11)

    def test_form(self):
        for world in shown_worlds():
            lines = show_world(world).split("\n")
            self.assertEqual(len(lines), 1 + len(world[1]))
            self.assertEqual(lines[0], "regions" + "".join(" " + region for region in world[0]))
            for line, (name, ends, kind) in zip(lines[1:], world[1], strict=True):
                self.assertEqual(line, kind + " " + name + "".join(" " + region for region in ends))


class Steps(unittest.TestCase):
    def test_each_kind(self):
        for step, text in ((("new", "a", "x"), "new a x"), (("number", "a", "x", 5), "number a x 5"),
                           (("drop", "a", "x"), "drop a x"), (("enter", "a", "x", "g", "s"), "enter a x g s"),
                           (("put", "a", "root", "f", "y"), "put a root f y"), (("get", "a", "x", "f", "y"), "get a x f y"),
                           (("same", "a", "x", "y"), "same a x y"), (("revoke", "g"), "revoke g"),
                           (("new", "root", "abcdefgh"), "new root abcdefgh")):
            self.assertEqual(show_step(step), text)
            self.assertEqual(show_program((step,)), text)

    def test_numbers(self):
        for number in NUMBERS:
            word = show_step(("number", "a", "x", number)).split(" ")[3]
            self.assertTrue(re.fullmatch("0|-?[1-9][0-9]*", word), word)
            self.assertEqual(int(word), number)
        self.assertEqual(show_step(("number", "a", "x", 0)), "number a x 0")
        self.assertEqual(show_step(("number", "a", "x", -1)), "number a x -1")
        self.assertEqual(show_step(("number", "a", "x", 10 ** 59)), "number a x 1" + 59 * "0")

    def test_programs(self):
        self.assertEqual(show_program(()), "-")
        self.assertEqual(show_program((("put", "a", "root", "f", "x"), ("number", "a", "x", -5))),
                         "put a root f x\nnumber a x -5")
        for world in machine_worlds():
            program = drawn_program(chances(131, 1)[0], world, 60, revokes=5)
            self.assertEqual(show_program(program), "\n".join(show_step(step) for step in program))
            for step in program:
                self.assertEqual(show_step(step), " ".join(str(part) for part in step))


class Answers(unittest.TestCase):
    def test_each(self):
        for answer, text in ((None, "-"), (True, "yes"), (False, "no"), (0, "0"), (1, "1"), (-1, "-1"), ("none", "none"),
                             ("object", "object"), ("no object", "no-object"), ("cut", "cut"), (10 ** 59, "1" + 59 * "0"),
                             (-10 ** 59, "-1" + 59 * "0")):
            self.assertEqual(show_answer(answer), text)

    def test_numbers(self):
        for number in NUMBERS:
            self.assertEqual(show_answer(number), str(number))

    def test_answers_of_machines(self):
        known = {"None": "-", "True": "yes", "False": "no", "'none'": "none", "'object'": "object", "'cut'": "cut",
                 "'no object'": "no-object"}
        seen = set()
        for world in machine_worlds():
            machine = SlowMachine(world)
            for step in drawn_program(chances(132, 1)[0], world, 80, revokes=3):
                answer = machine.do(step)
                self.assertEqual(show_answer(answer), known.get(repr(answer), repr(answer)))
                seen.add(repr(answer))
        self.assertTrue(set(known) < seen)


class Trails(unittest.TestCase):
    def test_some(self):
        self.assertEqual(show_trail(()), "-")
        self.assertEqual(show_trail((("p", "a", "b"),)), "p.a.b")
        self.assertEqual(show_trail((("p", "a", "b"), ("q", "b", "c"), ("abcdefgh", "root", "wrap"))),
                         "p.a.b q.b.c abcdefgh.root.wrap")

    def test_many_crossings(self):
        for length in (2, 50, 500):
            trail = random_trail(chances(133, 1)[0], RING, length)
            self.assertEqual(len(trail), length)
            words = show_trail(trail).split(" ")
            self.assertEqual(tuple(tuple(word.split(".")) for word in words), trail)


if __name__ == "__main__":
    unittest.main()
