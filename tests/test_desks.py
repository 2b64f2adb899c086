"""A desk beside a session and the functions that it asks."""

import itertools
import re
import unittest

from samples import APART, HUB, LINE, LONE, NAMESAKES, RING, TWIN, odd_values, random_worlds, ring_world, wraps
from slow import ALIKE, NAMES, SlowMachine, chances, drawn_step, machine_worlds, quiet_worlds
from test_reading import NAME, WORDS, slow_step, with_parts, with_signs
from wraptrails.cuts import least_cut
from wraptrails.cycles import noticed, quiet
from wraptrails.desks import Desk
from wraptrails.detectors import detector, shows_detector, steps_needed
from wraptrails.errors import BadLine, BadText, NothingDone, TrailError
from wraptrails.reading import read_program, read_trail, read_world
from wraptrails.sessions import Session
from wraptrails.showing import show_program, show_step, show_trail, show_world

SIGNS = (" ", "\n", "\t", "\r", "-", "/", "a", "z", "A", "0", "1", "\u0661", "\xa0", "\u2028", "")
QUESTIONS = ("back", "collect", "count", "value a x", "value a root", "entries", "quiet", "noticed", "steps", "detect", "cut a b",
             "cut a a", "world")


def answer_text(answer):
    """An answer's text, by its repr, so that 1 and True are told apart."""
    special = {"None": "-", "True": "yes", "False": "no", "'no object'": "no-object"}
    return special.get(repr(answer), repr(answer).strip("'"))


def value_text(value):
    if value is None or isinstance(value, int):
        return "-" if value is None else str(value)
    trail = " ".join(".".join(crossing) for crossing in value[2])
    return "object " + str(value[1]) + " " + (trail or "-")


def names_text(names):
    return " ".join(names) or "-"


def slow_detect(world):
    if steps_needed(world) is None:
        return "-"
    return "/".join(" ".join(str(part) for part in step) for step in detector(world))


def slow_say(session, world, line):
    """What a desk with this session must answer; None if the line is none of its lines."""
    if not isinstance(line, str):
        return None
    step = slow_step(world, line)
    if step is not None:
        return answer_text(session.do(step))
    machine = session.machine()
    asked = re.fullmatch(f"value ({NAME}) ({NAME})", line)
    if asked:
        return value_text(machine.value(*asked.groups())) if asked[1] in world[0] else None
    asked = re.fullmatch(f"cut ({NAME}) ({NAME})", line)
    if asked:
        if not set(asked.groups()) <= set(world[0]):
            return None
        result = least_cut(world, *asked.groups())
        return "open" if result[0] == "open" else names_text(result[1])
    if line == "back":
        session.back()
        return "done"
    if line == "collect":
        return str(session.collect())
    known = {"count": str(len(session)), "entries": f"{len(machine.entries())} {len(machine.needed())}",
             "quiet": names_text(quiet(world)), "noticed": names_text(noticed(world)),
             "steps": str(steps_needed(world) or "-"), "detect": slow_detect(world),
             "world": "/".join(show_world(world).split("\n"))}
    return known.get(line)


def looked(desk, world):
    """All that can be seen of a desk without changing it."""
    values = [desk.say("value " + region + " " + name) for region, name in itertools.product(world[0], (*NAMES, "root", "l"))]
    return [desk.say("count"), desk.say("entries"), *values]


class Lines(unittest.TestCase):
    def check(self, desk, session, world, line):
        """Compare a line's outcome with the slow one; return whether the line is one of a desk's."""
        before = looked(desk, world)
        try:
            expected = slow_say(session, world, line)
        except NothingDone:
            self.assertRaises(NothingDone, desk.say, line)
            self.assertEqual(looked(desk, world), before)
            return True
        if expected is not None:
            self.assertEqual(desk.say(line), expected, line)
            return True
        with self.assertRaises(TrailError) as caught:
            desk.say(line)
        self.assertIs(type(caught.exception), BadLine)
        self.assertIs(caught.exception.line, line)
        self.assertEqual(looked(desk, world), before)
        return False

    def drawn_line(self, chance, slow):
        """A step's text or another line; the steps are those of a slow machine, whatever was taken back."""
        if chance.random() < 0.6:
            step = drawn_step(chance, slow, revokes=3)
            slow.do(step)
            return show_step(step)
        region, other = chance.choice(slow.world[0]), chance.choice(slow.world[0])
        return chance.choice((*QUESTIONS[:3], *QUESTIONS[5:10], "world", f"value {region} {chance.choice(NAMES)}",
                              f"value {region} root", f"cut {region} {other}", f"cut {region} {region}", "back", "back"))

    def test_drawn_lines(self):
        for world in machine_worlds() + random_worlds(150, 20, 8, 8, 4):
            for chance in chances(151, 2):
                desk, session, slow = Desk(show_world(world)), Session(world), SlowMachine(world)
                for _ in range(60):
                    line = self.drawn_line(chance, slow)
                    self.assertTrue(self.check(desk, session, world, line))

    def test_each_line(self):
        desk = Desk("regions a b c\nwrap p a b\nwrap q b c")
        for line, answer in (
                ("count", "0"), ("entries", "0 0"), ("quiet", "p q"), ("noticed", "-"), ("steps", "-"), ("detect", "-"),
                ("cut a c", "p"), ("cut a a", "open"), ("world", "regions a b c/wrap p a b/wrap q b c"), ("value a x", "-"),
                ("value a root", "object 0 -"), ("value c root", "object 2 -"), ("enter b x p a", "-"), ("count", "1"),
                ("value b x", "object 0 p.a.b"), ("entries", "1 1"), ("put b root f x", "-"), ("enter c l q b", "-"),
                ("get c l f x", "object"), ("value c x", "object 0 p.a.b q.b.c"), ("same c x l", "no"), ("same c x x", "yes"),
                ("get c x f y", "none"), ("number c n -50", "-"), ("put c x f n", "-"), ("get a root f m", "-50"),
                ("value a m", "-50"), ("number a m 0", "-"), ("value a m", "0"), ("get a m f x", "no-object"),
                ("entries", "3 3"), ("drop c x", "-"), ("drop c l", "-"), ("entries", "3 1"), ("collect", "2"),
                ("entries", "1 1"), ("collect", "0"), ("back", "done"), ("back", "done"), ("entries", "3 1"), ("count", "14"),
                ("revoke p", "-"), ("entries", "3 0"), ("put b x f n", "cut"), ("enter b y p a", "cut"), ("cut a c", "p"),
                ("count", "17"), ("back", "done"), ("back", "done"), ("back", "done"), ("put b x f n", "-")):
            self.assertEqual(desk.say(line), answer, line)
        for _ in range(15):
            self.assertEqual(desk.say(line="back"), "done")
        self.assertRaises(NothingDone, desk.say, "back")
        self.assertEqual(looked(desk, LINE), looked(Desk(text=show_world(LINE)), LINE))

    def test_questions_about_worlds(self):
        for world in machine_worlds() + quiet_worlds()[:30] + [ring_world(size, ("wrap", "open")) for size in range(2, 11)]:
            desk = Desk(show_world(world))
            self.assertEqual(read_world(desk.say("world").replace("/", "\n")), world)
            for line, names in (("quiet", quiet(world)), ("noticed", noticed(world))):
                self.assertEqual(desk.say(line), " ".join(names) if names else "-")
            if steps_needed(world) is None:
                self.assertEqual((desk.say("steps"), desk.say("detect")), ("-", "-"))
            else:
                program = read_program(world, desk.say("detect").replace("/", "\n"))
                self.assertTrue(shows_detector(world, program))
                self.assertEqual(desk.say("detect"), show_program(detector(world)).replace("\n", "/"))
                self.assertEqual(desk.say("steps"), str(len(program)))
            for one, other in itertools.product(world[0], repeat=2):
                result = least_cut(world, one, other)
                names = " ".join(result[1]) if result[1] else "-"
                self.assertEqual(desk.say(f"cut {one} {other}"), "open" if result[0] == "open" else names)
            self.assertEqual(desk.say("count"), "0")

    def test_cut(self):
        for world, line, answer in ((RING, "cut a c", "p r"), (TWIN, "cut a b", "open"), (APART, "cut a c", "-"),
                                    (APART, "cut c a", "-"), (APART, "cut a b", "open"), (LONE, "cut a a", "open")):
            self.assertEqual(set(Desk(show_world(world)).say(line).split(" ")), set(answer.split(" ")))

    def test_values_are_read_back(self):
        for world in machine_worlds():
            desk, session, slow = Desk(show_world(world)), Session(world), SlowMachine(world)
            chance = chances(152, 1)[0]
            for _ in range(60):
                step = drawn_step(chance, slow)
                slow.do(step)
                session.do(step)
                desk.say(show_step(step))
            machine = session.machine()
            for region, name in itertools.product(world[0], (*NAMES, "root")):
                value, text = machine.value(region, name), desk.say(f"value {region} {name}")
                if isinstance(value, tuple):
                    word, number, trail = text.split(" ", 2)
                    self.assertEqual((word, int(number), read_trail(world, trail)), value)
                    self.assertEqual(trail, show_trail(value[2]))

    def test_signs(self):
        for world in (LINE, TWIN):
            desk, session = Desk(show_world(world)), Session(world)
            for line in (*QUESTIONS, "enter b x p a", "put b x f root", "get a root f y", "number a z -10", "same a y y", "new a x",
                         "drop a x"):
                for text in with_signs(line, SIGNS):
                    self.check(desk, session, world, text)
                # So that the calls that can be taken back stay few.
                for _ in range(len(session)):
                    self.check(desk, session, world, "back")

    def test_words(self):
        words = (*WORDS, "value", "cut", "back", "count", "quiet", "steps", "e")
        for world in (LINE, RING, NAMESAKES):
            desk, session = Desk(show_world(world)), Session(world)
            for line in (*QUESTIONS, "enter b x p a", "put b x f root", "get a root f y", "number a z -10", "same a y y", "revoke q"):
                for text in [*with_parts(line, " ", words), " " + line, line + " ", line + "\n", "\n" + line, line.upper(), line + "s"]:
                    self.check(desk, session, world, text)
                for _ in range(len(session)):
                    self.check(desk, session, world, "back")

    def test_regions_that_are_none(self):
        desk, session = Desk(show_world(LINE)), Session(LINE)
        for line in ("value d x", "value p x", "value root x", "value x a", "value a", "value a x y", "value a X", "value a abcdefghi",
                     "value  x", "value a ", "cut a d", "cut d a", "cut d d", "cut a", "cut a b c", "cut p q", "cut", "value",
                     "cut a b ", "new d x", "enter a x q b", "enter a x p c", "enter a x p a", "enter a x z b", "revoke z", "number a x",
                     "number a x 01", "number a x -0", "number a root 1", "get a x f root", "", " ", "-", "done", "step", "Back", "help",
                     "regions a b c", "wrap p a b", "new a x/new a y", "new a x\nnew a y", "back/back", "trial", "program"):
            self.assertFalse(self.check(desk, session, LINE, line), line)

    def test_steps_of_another_world(self):
        for world, other in itertools.permutations((LINE, TWIN, HUB, NAMESAKES, ALIKE, LONE), 2):
            desk, session, slow = Desk(show_world(world)), Session(world), SlowMachine(other)
            wrong = 0
            for chance in chances(153, 20):
                step = drawn_step(chance, slow, revokes=20)
                wrong += not self.check(desk, session, world, show_step(step))
            if not set(other[0]) <= set(world[0]):
                self.assertGreater(wrong, 0)
        # An open gateway is not revoked.
        self.assertFalse(self.check(Desk(show_world(TWIN)), Session(TWIN), TWIN, "revoke q"))
        self.assertNotIn("q", wraps(TWIN))

    def test_any_value(self):
        for world in (LINE, RING, LONE):
            desk, session = Desk(show_world(world)), Session(world)
            desk.say("new a x")
            session.do(("new", "a", "x"))
            for value in [*odd_values(), ("back",), ["back"], ("new", "a", "x"), ["new", "a", "x"], b"back", {"back": "back"}]:
                self.assertFalse(self.check(desk, session, world, value))
            self.assertEqual(desk.say("count"), "1")

    def test_back_at_the_beginning(self):
        desk = Desk("regions a")
        for _ in range(2):
            with self.assertRaises(NothingDone) as caught:
                desk.say("back")
            self.assertEqual(vars(caught.exception), {})
            self.assertEqual((desk.say("new a x"), desk.say("back"), desk.say("count")), ("-", "done", "0"))

    def test_numbers(self):
        desk = Desk("regions a")
        for number in (0, 1, -1, 10 ** 59, -10 ** 59, 10 ** 60 - 1):
            desk.say(f"number a x {number}")
            desk.say("put a root f x")
            self.assertEqual((desk.say("value a x"), desk.say("get a root f y")), (str(number), str(number)))

    def test_six_hundred_lines(self):
        desk = Desk(show_world(LINE))
        for at in range(150):
            self.assertEqual([desk.say(line) for line in ("enter b x p a", f"number b y {at}", "put b x f y", "get a root f z")],
                             ["-", "-", "-", str(at)])
        self.assertEqual(desk.say("count"), "600")
        for left in range(599, -1, -1):
            self.assertEqual((desk.say("back"), desk.say("count")), ("done", str(left)))
        self.assertEqual(looked(desk, LINE), looked(Desk(show_world(LINE)), LINE))


class Making(unittest.TestCase):
    def test_two_desks_of_one_text(self):
        text = show_world(LINE)
        one, other = Desk(text), Desk(text)
        one.say("enter b x p a")
        self.assertEqual((one.say("count"), other.say("count"), other.say("value b x")), ("1", "0", "-"))
        self.assertEqual((other.say("revoke p"), one.say("enter b y p a")), ("-", "-"))
        self.assertEqual(one.say("same b x y"), "yes")

    def test_no_world(self):
        texts = [*odd_values(), "", "regions", "regions b a", "regions a\n", "regions a b\nwrap p a", "regions a b\nwrap p a b\nwrap p a b",
                 "regions a b\nwrap q a b\nwrap p a b", "regions a b\n\nwrap p a b", LINE, [show_world(LINE)], b"regions a"]
        texts.extend(with_signs(show_world(TWIN), SIGNS))
        wrong = 0
        for text in texts:
            try:
                world = read_world(text)
            except BadText as error:
                wrong += 1
                with self.assertRaises(BadText) as caught:
                    Desk(text)
                self.assertEqual(repr(caught.exception.line), repr(error.line))
            else:
                self.assertEqual(Desk(text).say("world"), show_world(world).replace("\n", "/"))
        self.assertGreater(wrong, 500)


if __name__ == "__main__":
    unittest.main()
