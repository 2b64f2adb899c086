"""Reading texts, beside a reader made of patterns; every text with every small change."""

import itertools
import re
import unittest

from samples import (APART, HUB, LINE, LONE, NAMESAKES, RING, TWIN, all_crossings, follows, full_world, odd_values,
                     random_trail, ring_world, table, wraps)
from slow import ALIKE, WIDE, chances, drawn_program, machine_worlds
from test_showing import NUMBERS, shown_worlds
from wraptrails.errors import BadText
from wraptrails.reading import read_program, read_trail, read_world
from wraptrails.showing import show_program, show_trail, show_world

TEN = tuple("abcdefghij")
# Signs to put into texts: white space of many kinds, capital and other letters, digits of other scripts.
SIGNS = (" ", "\n", "\t", "\r", "\r\n", "\v", "\f", "\x1c", "\x85", "\xa0", "\u2028", "\u3000", "-", ".", "/", "+", "_", "a",
         "b", "z", "A", "B", "\u00e4", "\u0430", "0", "1", "9", "\u0661", "\u00b2", "\uff11", "\x00", "")
# One step of each kind, with numbers of each form.
STEPS = (("new", "a", "x"), ("number", "b", "y", -50), ("drop", "c", "x"), ("enter", "b", "x", "p", "a"),
         ("put", "a", "root", "f", "y"), ("get", "b", "x", "root", "z"), ("same", "c", "root", "x"), ("revoke", "q"),
         ("number", "a", "n", 0), ("number", "a", "n", 107))

NAME = "[a-z]{1,8}"


def is_sorted(words):
    return list(words) == sorted(set(words))


def slow_world(text):
    """The world, or the index of the bad line."""
    if not isinstance(text, str):
        return 0
    lines = re.split("\n", text)
    regions = lines[0].split(" ")[1:]
    if not re.fullmatch(f"regions( {NAME}){{1,10}}", lines[0]) or not is_sorted(regions):
        return 0
    gateways = []
    for at, line in enumerate(lines[1:], start=1):
        if not re.fullmatch(f"(wrap|open) {NAME}( {NAME}){{2,10}}", line) or at > 10:
            return at
        kind, name, *ends = line.split(" ")
        if not is_sorted(ends) or not set(ends) <= set(regions) or (gateways and gateways[-1][0] >= name):
            return at
        gateways.append((name, tuple(ends), kind))
    return (tuple(regions), tuple(gateways))


def slow_step(world, line):
    """The step that a line is, or None."""
    region, gateway = "|".join(world[0]), "|".join(table(world)) or "0"
    wrapping, goal = "|".join(wraps(world)) or "0", f"(?!root\\b){NAME}"
    forms = (f"(new) ({region}) ({goal})", f"(number) ({region}) ({goal}) (0|-?[1-9][0-9]*)", f"(drop) ({region}) ({goal})",
             f"(enter) ({region}) ({goal}) ({gateway}) ({region})", f"(put) ({region}) ({NAME}) ({NAME}) ({NAME})",
             f"(get) ({region}) ({NAME}) ({NAME}) ({goal})", f"(same) ({region}) ({NAME}) ({NAME})", f"(revoke) ({wrapping})")
    for form in forms:
        found = re.fullmatch(form, line)
        if found:
            step = found.groups()
            if step[0] == "number":
                return (*step[:3], int(step[3]))
            if step[0] == "enter" and (step[1] == step[4] or not {step[1], step[4]} <= set(table(world)[step[3]])):
                return None
            return step
    return None


def slow_program(world, text):
    if not isinstance(text, str):
        return 0
    lines = re.split("\n", text)
    if lines == ["-"]:
        return ()
    if lines[0] == "-":
        return 1
    steps = [slow_step(world, line) for line in lines]
    return steps.index(None) if None in steps else tuple(steps)


def slow_trail(world, text):
    if not isinstance(text, str):
        return 0
    lines = re.split("\n", text)
    trail = ()
    if lines[0] != "-":
        if not re.fullmatch(f"{NAME}\\.{NAME}\\.{NAME}( {NAME}\\.{NAME}\\.{NAME})*", lines[0]):
            return 0
        trail = tuple(tuple(word.split(".")) for word in lines[0].split(" "))
        if any(crossing not in all_crossings(world) for crossing in trail):
            return 0
        if any(not follows(world, before, behind) for before, behind in zip(trail, trail[1:])):
            return 0
    return trail if len(lines) == 1 else 1


def with_signs(text, signs=SIGNS):
    """The text with a sign removed, repeated, replaced, inserted or swapped, at each place."""
    for at in range(len(text) + 1):
        before, sign, behind = text[:at], text[at:at + 1], text[at + 1:]
        yield before + behind
        yield before + sign + sign + behind
        yield before + behind[:1] + sign + behind[1:]
        for other in signs:
            yield before + other + behind
            yield before + other + sign + behind


def with_parts(text, between, others):
    """The text with a part (a word, a line) removed, repeated, replaced, inserted or swapped."""
    parts = text.split(between)
    for at, part in enumerate(parts):
        yield between.join(parts[:at] + parts[at + 1:])
        yield between.join(parts[:at] + [part] + parts[at:])
        yield between.join(parts + [part])
        yield between.join(parts[:at])
        for other in range(at):
            moved = list(parts)
            moved[at], moved[other] = moved[other], moved[at]
            yield between.join(moved)
        for other in others:
            yield between.join(parts[:at] + [other] + parts[at + 1:])
            yield between.join(parts[:at] + [other] + parts[at:])


def with_words(text, others):
    """The text with such a change of the words in one of its lines."""
    lines = text.split("\n")
    for at, line in enumerate(lines):
        for other in with_parts(line, " ", others):
            yield "\n".join(lines[:at] + [other] + lines[at + 1:])


WORDS = ("", "-", "a", "b", "c", "d", "p", "q", "x", "root", "regions", "wrap", "open", "new", "number", "enter", "put", "Wrap",
         "abcdefgh", "abcdefghi", "0", "-0", "+1", "01", "00", "-01", "--1", "1-", "1_0", "1.0", "\u0661", "p.a.b", "q.b.c",
         "p.b.a", "p.a", "p.a.b.c", "p.a.a", "q.a.b", "P.a.b", ".", "..")


class Reading(unittest.TestCase):
    """Helps to compare a reader with a slow one."""

    def check(self, reader, slow, text, *world):
        """Whether the text is read; both agree, and an error keeps the line's index."""
        expected = slow(*world, text)
        if isinstance(expected, tuple):
            self.assertEqual(repr(reader(*world, text)), repr(expected))
            return True
        with self.assertRaises(BadText) as caught:
            reader(*world, text)
        self.assertEqual(repr(vars(caught.exception)), repr({"line": expected}), repr(text))
        return False

    def check_all(self, reader, slow, texts, *world):
        """At least one of the texts is read, and at least one is not."""
        self.assertEqual({self.check(reader, slow, text, *world) for text in texts}, {True, False})

    def check_line(self, reader, line, text, *world):
        with self.assertRaises(BadText) as caught:
            reader(*world, text)
        self.assertIs(type(caught.exception.line), int)
        self.assertEqual(caught.exception.line, line, repr(text))


class Worlds(Reading):
    def test_what_was_shown(self):
        for world in shown_worlds():
            text = show_world(world)
            self.assertEqual(read_world(text), world)
            self.assertEqual(read_world(text=text), world)
            self.assertEqual(show_world(read_world(text)), text)
            self.assertTrue(self.check(read_world, slow_world, text))

    def test_signs(self):
        for world in (LONE, LINE, TWIN, HUB, NAMESAKES):
            self.check_all(read_world, slow_world, with_signs(show_world(world)))

    def test_words_and_lines(self):
        for world in (LINE, RING, TWIN, HUB, APART, NAMESAKES, WIDE):
            text = show_world(world)
            lines = ("", "regions a b c", "wrap p a b", "open q a b", "wrap z b c", "wrap a a b", "-", "wrap p", "wrap", " ")
            self.check_all(read_world, slow_world, with_parts(text, "\n", lines))
            self.check_all(read_world, slow_world, with_words(text, WORDS))

    def test_large_worlds(self):
        for world in (full_world(("wrap", "open")), ALIKE, ring_world(10, ("wrap", "open"))):
            text = show_world(world)
            self.check_all(read_world, slow_world, with_signs(text, (" ", "\n", "a", "A", "")))
            self.check_all(read_world, slow_world, with_parts(text, "\n", ("", "wrap gaa a b", "open zz a b", "wrap a a b")))

    def test_the_first_line(self):
        for text in ("", " ", "-", "regions", "regions ", "Regions a", "region a", " regions a", "regions  a", "regions a ",
                     "regions a a", "regions b a", "regions a b a", "regions A", "regions abcdefghi", "regions a1", "regions a,b",
                     "regions\ta", "regions a\r", "regions a\tb", "a b", "wrap p a b", "\nregions a", "regions " + " ".join(TEN) + " k",
                     "regions a -", "regions \u00e4", "regionsa", "regions a\x0bwrap p a b", "regions a b\rwrap p a b"):
            self.check_line(read_world, 0, text)
            self.check_line(read_world, 0, text + "\nwrap p a b")
        self.assertEqual(read_world("regions " + " ".join(TEN)), (TEN, ()))
        self.assertEqual(read_world("regions regions"), (("regions",), ()))

    def test_gateways(self):
        first = "regions a b c\nwrap p a b\n"
        for line in ("", " ", "-", "wrap", "wrap q", "wrap q ", "wrap q a", "wrap q a a", "wrap q b a", "wrap q a d", "wrap q a b d",
                     "wrap p b c", "wrap a b c", "open p a b", "Wrap q a b", "wraps q a b", "shut q a b", "wrap Q a b",
                     "wrap abcdefghi a b", " wrap q a b", "wrap  q a b", "wrap q  a b", "wrap q a  b", "wrap q a b ", "wrap q a b\t",
                     "wrap q a b\r", "wrap q\ta b", "wrap q a b c c", "wrap q a,b", "regions a b c", "q a b", "wrap a b", "wrap q1 a b"):
            self.check_line(read_world, 2, first + line)
            self.check_line(read_world, 2, first + line + "\nwrap r a b")
            self.check_line(read_world, 2, first + line + "\n")
        for line in ("wrap q a b", "open q a b", "wrap pp a b", "wrap q a b c", "open zzzzzzzz a c"):
            self.assertEqual(len(read_world(first + line)[1]), 2)
            self.check_line(read_world, 3, first + line + "\n")
            self.check_line(read_world, 3, first + line + "\n" + line)
            self.check_line(read_world, 1, "regions a b c\n\n" + line)

    def test_too_many_gateways(self):
        names = "abcdefghijklm"
        text = "regions a b"
        for at, name in enumerate(names):
            text += "\nopen " + name + " a b"
            if at < 10:
                self.assertEqual(len(read_world(text)[1]), at + 1)
            else:
                self.check_line(read_world, 11, text)

    def test_any_value(self):
        for value in odd_values():
            if not isinstance(value, str):
                self.check_line(read_world, 0, value)
            self.check(read_world, slow_world, value)
        self.check_line(read_world, 0, ("regions a",))
        self.check_line(read_world, 0, ["regions a"])
        self.check_line(read_world, 0, b"regions a")

    def test_long_texts(self):
        self.check_line(read_world, 0, "regions " + "a" * 19990)
        self.check_line(read_world, 0, "regions" + " a" * 9990)
        self.check_line(read_world, 2, "regions a b\nwrap p a b\n" + "\n" * 19000)
        self.check_line(read_world, 0, "\n" * 20000)


class Programs(Reading):
    def test_what_was_shown(self):
        for world in machine_worlds():
            for chance in chances(140, 3):
                program = drawn_program(chance, world, chance.randint(0, 80), revokes=5)
                text = show_program(program)
                self.assertEqual(repr(read_program(world, text)), repr(program))
                self.assertEqual(repr(read_program(world=world, text=text)), repr(program))
                self.assertTrue(self.check(read_program, slow_program, text, world))

    def test_numbers(self):
        for number in NUMBERS:
            step = ("number", "a", "x", number)
            self.assertEqual(repr(read_program(LINE, show_program((step, step)))), repr((step, step)))

    def test_six_hundred_steps(self):
        program = drawn_program(chances(141, 1)[0], RING, 600, longest=6)
        text = show_program(program)
        self.assertEqual(read_program(RING, text), program)
        self.check_line(read_program, 600, text + "\n", RING)
        self.check_line(read_program, 599, text + " ", RING)

    def test_signs(self):
        for world, steps in ((LINE, STEPS[:4]), (LINE, STEPS[4:]), (RING, STEPS[3:8]), (HUB, (("enter", "a", "x", "h", "b"),))):
            self.check_all(read_program, slow_program, with_signs(show_program(steps)), world)

    def test_words_and_lines(self):
        text = show_program(STEPS)
        for world in (LINE, RING):
            self.check_all(read_program, slow_program, with_parts(text, "\n", ("", "-", "new a x", "new a root", "revoke z", " ")), world)
        self.check_all(read_program, slow_program, with_words(text, WORDS), LINE)

    def test_dash(self):
        self.assertEqual(read_program(LINE, "-"), ())
        for rest in ("", "-", "new a x", "x", "new a root", "\n", "new a x\nnew a x"):
            self.check_line(read_program, 1, "-\n" + rest, LINE)
        for text in ("", "--", "- ", " -", "-\r", "-new a x", "- new a x"):
            self.check_line(read_program, 0, text, LINE)
        self.check_line(read_program, 1, "new a x\n-", LINE)
        self.check_line(read_program, 2, "new a x\nnew b x\n-\nnew a x", LINE)

    def test_bad_numbers(self):
        for word in ("", "00", "01", "-0", "-00", "-01", "+1", "+0", "--1", "- 1", "1-", "-", "1.0", "1e3", "0x1", "1_000", " 1", "1 ",
                     "\u0661", "\u00b2", "\uff11", "1\u0661", "x", "one", "True", "None", "1\t", "\t1", "1\x00", "0" * 60, "-" + "0" * 60,
                     "0" + "9" * 59, "\u22121", "1,000"):
            self.check_line(read_program, 0, "number a x " + word, LINE)
            self.check_line(read_program, 1, "new a x\nnumber a x " + word, LINE)
        # A number stands only where the step has one.
        for text in ("new a 5", "new a x 5", "number a 5", "number 5 x 5", "number a x 5 5", "number 5", "5", "put a x 5 y", "number a x y"):
            self.check_line(read_program, 0, text, LINE)

    def test_steps_of_another_world(self):
        for world, other in itertools.permutations((LINE, RING, TWIN, HUB, NAMESAKES, ALIKE, LONE, APART), 2):
            for chance in chances(142, 2):
                self.check(read_program, slow_program, show_program(drawn_program(chance, world, 20, revokes=9)), other)

    def test_any_value(self):
        for value in odd_values():
            if not isinstance(value, str):
                self.check_line(read_program, 0, value, LINE)
            self.check(read_program, slow_program, value, LINE)
        self.check_line(read_program, 0, (("new", "a", "x"),), LINE)
        self.check_line(read_program, 0, b"-", LINE)


class Trails(Reading):
    def test_what_was_shown(self):
        for world in machine_worlds():
            for chance in chances(143, 6):
                trail = random_trail(chance, world, chance.randint(0, 12))
                text = show_trail(trail)
                self.assertEqual(read_trail(world, text), trail)
                self.assertEqual(read_trail(world=world, text=text), trail)
                self.check_line(read_trail, 1, text + "\n", world)
                self.check_line(read_trail, 1, text + "\n" + text, world)

    def test_five_hundred_crossings(self):
        trail = random_trail(chances(144, 1)[0], RING, 500)
        self.assertEqual(read_trail(RING, show_trail(trail)), trail)
        self.assertEqual(len(trail), 500)

    def test_signs(self):
        for world, trail in ((LINE, (("p", "a", "b"), ("q", "b", "c"))), (RING, (("p", "b", "a"), ("r", "a", "c"), ("q", "c", "b"))),
                             (ALIKE, (("open", "root", "baa"), ("aa", "aab", "aa")))):
            self.check_all(read_trail, slow_trail, with_signs(show_trail(trail)), world)

    def test_words(self):
        for world, trail in ((LINE, (("p", "a", "b"), ("q", "b", "c"))), (RING, (("p", "b", "a"), ("r", "a", "c"), ("q", "c", "b"))),
                             (HUB, (("h", "a", "c"),)), (TWIN, (("p", "a", "b"),)), (LINE, ())):
            self.check_all(read_trail, slow_trail, [show_trail(trail), *with_parts(show_trail(trail), " ", WORDS)], world)
            self.check_all(read_trail, slow_trail, [show_trail(trail), *with_parts(show_trail(trail), ".", ("", "a", "b", "p", "."))], world)

    def test_lines(self):
        for rest in ("", "-", "p.a.b", "x", "\n"):
            self.check_line(read_trail, 1, "-\n" + rest, LINE)
            self.check_line(read_trail, 1, "p.a.b\n" + rest, LINE)
            self.check_line(read_trail, 0, "p.a.c\n" + rest, LINE)
            self.check_line(read_trail, 0, "\n" + rest, LINE)
        for text in ("", " ", "--", "- -", "-.", "p.a.b -", "- p.a.b", "p.a.b ", " p.a.b", "p.a.b  q.b.c", "p.a.b\tq.b.c", "p a b", "p.a",
                     "p..a.b", "p.a.b.", ".p.a.b", "p.a.b,q.b.c", "p.a.a", "P.a.b", "p.a.b p.b.a", "p.a.b q.c.b", "x.a.b", "p.a.d", "-\r"):
            self.check_line(read_trail, 0, text, LINE)

    def test_open_gateways(self):
        self.check_line(read_trail, 0, "q.a.b", TWIN)
        # A zone is crossed between two crossings.
        world = (tuple("abcd"), (("o", ("b", "c"), "open"), ("p", ("a", "b"), "wrap"), ("q", ("c", "d"), "wrap")))
        self.assertEqual(read_trail(world, "p.a.b q.c.d"), (("p", "a", "b"), ("q", "c", "d")))
        self.check_line(read_trail, 0, "p.a.b o.b.c q.c.d", world)

    def test_any_value(self):
        for value in odd_values():
            if not isinstance(value, str):
                self.check_line(read_trail, 0, value, LINE)
            self.check(read_trail, slow_trail, value, LINE)
        self.check_line(read_trail, 0, (("p", "a", "b"),), LINE)
        self.check_line(read_trail, 0, b"-", LINE)


if __name__ == "__main__":
    unittest.main()
