"""The examples of the document, as they stand, and those of the README."""

import doctest
import pathlib
import unittest

from wraptrails.builders import Builder
from wraptrails.continuations import continuation, shows_continuation
from wraptrails.cuts import cut_variables, least_cut, shows_cut
from wraptrails.cycles import connected, girth, is_cycle, is_path, noticed, quiet, shortest_cycle, zones
from wraptrails.desks import Desk
from wraptrails.detectors import detector, shows_detector, steps_needed
from wraptrails.differences import compared, differences
from wraptrails.errors import ClosesCycle
from wraptrails.machines import Machine, answers
from wraptrails.programs import has_revoke, is_step
from wraptrails.sessions import Session
from wraptrails.showing import show_program
from wraptrails.trailmachine import TrailMachine
from wraptrails.trails import crossed, inward, is_trail, outward
from wraptrails.worlds import is_world, members, plain, with_open

EXAMPLES = """
    >>> line = (("a", "b", "c"), (("p", ("a", "b"), "wrap"), ("q", ("b", "c"), "wrap")))
    >>> ring = (("a", "b", "c"), (("p", ("a", "b"), "wrap"), ("q", ("b", "c"), "wrap"), ("r", ("a", "c"), "wrap")))

Section 4:

    >>> is_world((("a",), ()))
    True

    >>> members(line, "q")
    ('b', 'c')

    >>> with_open(line, ("p",))[1]
    (('p', ('a', 'b'), 'open'), ('q', ('b', 'c'), 'wrap'))

    >>> plain(line) == with_open(line, ("q", "p"))
    True

Section 5:

    >>> is_path(ring, ("a", "p", "b", "q", "c"))
    True
    >>> is_cycle(ring, (("a", "p"), ("b", "q"), ("c", "r")))
    True

    >>> connected(line, "a", "c", without=("q",))
    False

    >>> zones(with_open(line, ("p",)))
    (('a', 'b'), ('c',))

    >>> quiet(ring)
    ()

    >>> noticed(with_open(ring, ("p", "q")))
    ('r',)

    >>> girth(ring)
    3

    >>> shortest_cycle(line) is None
    True

Section 6:

    >>> is_trail(line, (("p", "a", "b"), ("q", "b", "c")))
    True

    >>> crossed((("p", "a", "b"),), "p", "b", "a")
    ()

    >>> inward((), (("p", "a", "b"),))
    (('p', 'b', 'a'),)

    >>> outward((("p", "b", "a"),), (("p", "a", "b"),))
    ()

Section 7:

    >>> is_step(line, ("enter", "a", "x", "q", "c"))
    False

    >>> has_revoke((("revoke", "p"), ("new", "a", "x")))
    True

Section 8:

    >>> machine = Machine(line)
    >>> machine.run((("enter", "b", "x", "p", "a"), ("put", "b", "x", "f", "x"), ("get", "a", "root", "f", "y"), ("same", "a", "root", "y")))
    (None, None, 'object', True)
    >>> [machine.value("b", "x"), machine.entries()]
    [('object', 0, (('p', 'a', 'b'),)), (('p', 'a', 0, (), 'b'),)]

    >>> answers(line, (("get", "a", "x", "f", "y"), ("number", "a", "x", 7), ("same", "a", "x", "y")))
    ('no object', None, False)

Section 9:

    >>> TrailMachine(line).run((("enter", "b", "x", "p", "a"), ("same", "b", "x", "root")))
    (None, False)

Section 10:

    >>> differences(line, (("enter", "b", "x", "p", "a"), ("same", "b", "x", "x")))
    ()

    >>> compared(line, (("same", "a", "root", "root"),))
    ((0, 0, (), ()),)

    >>> steps_needed(ring)
    6

    >>> differences(ring, detector(ring))
    (5,)

    >>> shows_detector(ring, (("enter", "b", "x", "p", "a"),))
    False

Section 11:

    >>> len(least_cut(ring, "a", "c")[1])
    2

    >>> shows_cut(line, "a", "c", ("cut", ("p",), (("a", "p", "b", "q", "c"),)))
    True

    >>> cut_variables(Machine(line))
    ()

Section 12:

    >>> machine = Machine(line)
    >>> machine.do(("enter", "b", "x", "p", "a")) is None
    True
    >>> shows_continuation(machine, machine.needed()[0], continuation(machine, machine.needed()[0]))
    True

    >>> shows_continuation(machine, machine.needed()[0], ())
    False

Section 13:

    >>> builder = Builder(("a", "b"))
    >>> builder.add("p", ("a", "b")) is None
    True

Section 14:

    >>> session = Session(line)
    >>> [session.do(("new", "a", "x")), len(session), session.back(), session.machine().object_count()]
    [None, 1, None, 3]

Section 15:

    >>> show_program((("put", "a", "root", "f", "x"), ("number", "a", "x", -5)))
    'put a root f x\\nnumber a x -5'

Section 16:

    >>> desk = Desk("regions a b\\nwrap p a b\\nopen q a b")
    >>> [desk.say("enter b x p a"), desk.say("enter b y q a"), desk.say("same b x y"), desk.say("value b x")]
    ['-', '-', 'no', 'object 0 p.a.b']
"""

NAMES = {function.__name__: function for function in (
    connected, girth, is_cycle, is_path, noticed, quiet, shortest_cycle, zones,
    crossed, inward, is_trail, outward, is_world, members, plain, with_open, has_revoke, is_step, Machine, answers,
    TrailMachine, differences, compared, steps_needed, detector, shows_detector, least_cut, shows_cut, cut_variables,
    continuation, shows_continuation, Builder, Session, show_program, Desk)}


README = pathlib.Path(__file__).resolve().parent.parent / "README.md"


class Examples(unittest.TestCase):
    def check(self, text, names, count):
        examples = doctest.DocTestParser().get_doctest(text, names, "examples", None, 0)
        wrong = []
        outcome = doctest.DocTestRunner(verbose=False).run(examples, out=wrong.append)
        self.assertEqual(outcome.failed, 0, "".join(wrong))
        self.assertGreaterEqual(outcome.attempted, count)

    def test_document(self):
        self.check(EXAMPLES, dict(NAMES), 44)

    def test_builder_raises(self):
        builder = Builder(("a", "b"))
        self.assertIs(builder.add("p", ("a", "b")) is None, True)
        with self.assertRaises(ClosesCycle):
            builder.add("q", ("a", "b"), kind="open")

    def test_readme(self):
        self.check(README.read_text(encoding="utf-8"), {}, 50)


if __name__ == "__main__":
    unittest.main()
