"""Sessions: what is taken back leaves everything as it was before."""

import itertools
import unittest

from samples import HUB, LINE, LONE, RING, odd_values
from slow import ALIKE, FIELDS, NAMES, SlowMachine, chances, drawn_step, machine_worlds
from test_steps import state, wrong_steps
from wraptrails.errors import BadMark, BadStep, NothingDone, TrailError
from wraptrails.machines import Machine
from wraptrails.sessions import Session


def probed(machine):
    """All that can be seen of a machine, the fields of its objects with it, without changing it."""
    seen = [state(machine)]
    for region, name, field in itertools.product(machine.own_world[0], (*NAMES, "root", "l"), (*FIELDS, "k")):
        copied = machine.copied()
        seen.append((copied.do(("get", region, name, field, "probe")), copied.value(region, "probe")))
    return seen


def seen(session):
    return (probed(session.machine()), session.program(), len(session))


class Odd(Exception):
    """An error that is none of the package's."""


def drawn_calls(chance, session, count, collects=0.1, revokes=2, kept=None):
    """Do and collect by chance; keep what was seen before each call."""
    slow = SlowMachine(session.machine().own_world)
    for step in session.program():
        slow.do(step)
    for _ in range(count):
        if kept is not None:
            kept.append(seen(session))
        if chance.random() < collects:
            session.collect()
        else:
            step = drawn_step(chance, slow, revokes=revokes)
            slow.do(step)
            session.do(step)


class Doing(unittest.TestCase):
    def test_at_first(self):
        for world in machine_worlds():
            session = Session(world)
            self.assertEqual(seen(session), (probed(Machine(world)), (), 0))
            self.assertEqual(Session(world=world).program(), ())

    def test_beside_a_machine(self):
        for world in machine_worlds():
            for chance in chances(120, 2):
                session, machine, slow = Session(world), Machine(world), SlowMachine(world)
                steps = []
                for count in range(50):
                    self.assertEqual(len(session), count)
                    if chance.random() < 0.1:
                        self.assertEqual(session.collect(), machine.collect())
                    else:
                        steps.append(drawn_step(chance, slow, revokes=2))
                        slow.do(steps[-1])
                        self.assertEqual(repr(session.do(steps[-1])), repr(machine.do(steps[-1])))
                    self.assertEqual(state(session.machine()), state(machine))
                    self.assertEqual(session.program(), tuple(steps))

    def test_bad_steps(self):
        session = Session(LINE)
        session.do(("enter", "b", "x", "p", "a"))
        before = seen(session)
        for value in wrong_steps():
            with self.assertRaises(BadStep) as caught:
                session.do(value)
            self.assertIs(caught.exception.step, value)
            self.assertEqual(len(session), 1)
        self.assertEqual(seen(session), before)
        session.back()
        self.assertEqual(seen(session), seen(Session(LINE)))

    def test_the_machine_is_a_copy(self):
        session = Session(LINE)
        session.do(("enter", "b", "x", "p", "a"))
        before = seen(session)
        one, other = session.machine(), session.machine()
        one.run((("drop", "b", "x"), ("number", "a", "x", 5), ("put", "a", "root", "f", "x"), ("revoke", "p")))
        one.collect()
        other.forget(other.entries()[0])
        self.assertEqual(seen(session), before)
        held = session.machine()
        session.do(("new", "a", "x"))
        self.assertEqual(probed(held), before[0])
        self.assertIsInstance(held, Machine)

    def test_two_sessions(self):
        one, other = Session(LINE), Session(LINE)
        one.do(("new", "a", "x"))
        self.assertEqual(seen(other), seen(Session(LINE)))


class TakingBack(unittest.TestCase):
    def test_nothing_done(self):
        for world in (LINE, LONE, RING):
            session = Session(world)
            for _ in range(2):
                with self.assertRaises(NothingDone) as caught:
                    session.back()
                self.assertEqual(vars(caught.exception), {})
                session.do(("new", "a", "x"))
                self.assertIsNone(session.back())
            self.assertEqual(seen(session), seen(Session(world)))

    def test_each_kind_of_step(self):
        first = (("enter", "b", "x", "p", "a"), ("new", "b", "y"), ("put", "b", "root", "f", "x"), ("number", "b", "z", 5))
        steps = (("new", "b", "x"), ("new", "b", "k"), ("number", "b", "x", 7), ("drop", "b", "x"), ("drop", "b", "zz"),
                 ("enter", "b", "x", "q", "c"), ("enter", "c", "x", "q", "b"), ("put", "b", "x", "f", "y"),
                 ("put", "b", "root", "f", "z"), ("put", "b", "z", "f", "x"), ("get", "b", "root", "f", "y"),
                 ("get", "b", "root", "g", "x"), ("same", "b", "x", "y"), ("revoke", "p"), ("revoke", "q"))
        for step in steps:
            session = Session(LINE)
            for earlier in first:
                session.do(earlier)
            before = seen(session)
            session.do(step)
            self.assertEqual(session.program(), (*first, step))
            self.assertNotEqual(seen(session), before)
            self.assertIsNone(session.back())
            self.assertEqual(seen(session), before)

    def test_a_collect(self):
        session = Session(LINE)
        session.do(("enter", "b", "x", "p", "a"))
        session.do(("drop", "b", "x"))
        before = seen(session)
        self.assertEqual(session.collect(), 1)
        self.assertEqual((len(session), session.machine().entries()), (3, ()))
        # One that removes nothing can be taken back, too, and is no step.
        self.assertEqual(session.collect(), 0)
        self.assertEqual((len(session), len(session.program()), len(session.machine())), (4, 2, 2))
        self.assertIsNone(session.back())
        self.assertEqual((len(session), session.machine().entries()), (3, ()))
        self.assertIsNone(session.back())
        self.assertEqual(seen(session), before)
        self.assertEqual(session.machine().entries(), (("p", "a", 0, (), "b"),))

    def test_a_collect_before_anything(self):
        session = Session(LINE)
        self.assertEqual((session.collect(), len(session), session.program()), (0, 1, ()))
        session.back()
        self.assertRaises(NothingDone, session.back)

    def test_drawn_calls(self):
        # The copies are kept beside the session, which does not know them.
        taken = 0
        for world in machine_worlds():
            for chance in chances(121, 1):
                session, slow = Session(world), SlowMachine(world)
                machine = Machine(world)
                past = []
                for _ in range(60):
                    call = chance.choices(("do", "collect", "back"), weights=(12, 2, 5))[0]
                    if call == "back" and past:
                        self.assertIsNone(session.back())
                        machine, steps = past.pop()
                        slow = SlowMachine(world)
                        for step in steps:
                            slow.do(step)
                        taken += 1
                        self.assertEqual(seen(session), (probed(machine), steps, len(past)))
                    elif call == "back":
                        self.assertRaises(NothingDone, session.back)
                    else:
                        past.append((machine.copied(), session.program()))
                        if call == "collect":
                            self.assertEqual(session.collect(), machine.collect())
                        else:
                            step = drawn_step(chance, slow, revokes=2)
                            slow.do(step)
                            self.assertEqual(repr(session.do(step)), repr(machine.do(step)))
                    self.assertEqual((len(session), state(session.machine())), (len(past), state(machine)))
        self.assertGreater(taken, 300)

    def test_all_of_them(self):
        for world in machine_worlds():
            session, kept = Session(world), []
            drawn_calls(chances(122, 1)[0], session, 40, kept=kept)
            while kept:
                session.back()
                self.assertEqual(seen(session), kept.pop())
            self.assertRaises(NothingDone, session.back)

    def test_six_hundred_calls(self):
        for world in (LINE, RING, ALIKE):
            session, machines = Session(world), []
            slow = SlowMachine(world)
            chance = chances(123, 1)[0]
            for count in range(600):
                machines.append(state(session.machine()) if count % 7 == 0 else None)
                if count % 20 == 19:
                    session.collect()
                else:
                    step = drawn_step(chance, slow, longest=12)
                    slow.do(step)
                    session.do(step)
            self.assertEqual((len(session), len(session.program())), (600, 570))
            for count in range(599, -1, -1):
                self.assertIsNone(session.back())
                self.assertEqual(len(session), count)
                if machines[count] is not None:
                    self.assertEqual(state(session.machine()), machines[count])
            self.assertRaises(NothingDone, session.back)
            self.assertEqual(seen(session), seen(Session(world)))

    def test_other_steps_after_taking_back(self):
        session = Session(LINE)
        for step in (("enter", "b", "x", "p", "a"), ("revoke", "p"), ("enter", "b", "y", "p", "a")):
            session.do(step)
        self.assertEqual(session.machine().answers(), (None, None, "cut"))
        session.back()
        session.back()
        self.assertEqual(session.do(("enter", "b", "y", "p", "a")), None)
        self.assertEqual(session.do(("same", "b", "x", "y")), True)
        self.assertEqual(session.machine().revoked(), ())
        self.assertEqual(len(session.program()), 3)


class BackTo(unittest.TestCase):
    def test_each_number(self):
        for world in machine_worlds()[:20]:
            for mark in range(13):
                session, kept = Session(world), []
                drawn_calls(chances(124, 1)[0], session, 12, kept=kept)
                kept.append(seen(session))
                self.assertIsNone(session.back_to(mark))
                self.assertEqual(seen(session), kept[mark])
                self.assertIsNone(session.back_to(mark=mark))
                self.assertEqual(seen(session), kept[mark])
                # And on from there.
                for left in range(mark - 1, -1, -1):
                    session.back()
                    self.assertEqual(len(session), left)
                self.assertEqual(seen(session), kept[0])

    def check(self, session, value):
        before = seen(session)
        with self.assertRaises(BadMark) as caught:
            session.back_to(value)
        self.assertIs(caught.exception.mark, value)
        self.assertEqual(seen(session), before)

    def test_bad_marks(self):
        for count in range(4):
            session = Session(LINE)
            for _ in range(count):
                session.do(("new", "a", "x"))
            wrong = [value for value in odd_values() if not isinstance(value, int) or isinstance(value, bool)]
            for value in [count + 1, -1, -count - 1, count + 100, -10 ** 60, 10 ** 60, True, False, "0", str(count), *wrong]:
                self.check(session, value)
            self.assertIsNone(session.back_to(count))
            self.assertEqual(len(session), count)

    def test_at_first(self):
        session = Session(LINE)
        self.assertIsNone(session.back_to(0))
        self.check(session, 1)
        self.check(session, False)


class Trials(unittest.TestCase):
    def made(self, world=LINE, count=10):
        """A session with calls that can be taken back, and what was seen before each of them and at the end."""
        session, kept = Session(world), []
        drawn_calls(chances(125, 1)[0], session, count, kept=kept)
        kept.append(seen(session))
        return session, kept

    def check(self, session, kept):
        """Everything is as before, and all calls from before can still be taken back, one by one."""
        self.assertEqual(seen(session), kept[-1])
        for before in kept[-2::-1]:
            self.assertIsNone(session.back())
            self.assertEqual(seen(session), before)
        self.assertRaises(NothingDone, session.back)

    def test_looks(self):
        def do(session):
            return session.do(("new", "a", "x")), session.do(("enter", "b", "x", "p", "a"))

        def collect(session):
            return session.collect(), session.collect()

        def back(session):
            return session.back(), session.back()

        def past_the_beginning(session):
            session.do(("revoke", "p"))
            session.back_to(2)
            session.do(("revoke", "q"))
            return session.collect()

        def to_the_beginning(session):
            return session.back_to(0)

        def all_and_on(session):
            while len(session) > 0:
                session.back()
            drawn_calls(chances(126, 1)[0], session, 30)

        def nothing(session):
            return None

        for look in (do, collect, back, past_the_beginning, to_the_beginning, all_and_on, nothing):
            for world in (LINE, RING):
                session, kept = self.made(world)
                session.trial(look)
                self.check(session, kept)
                session, kept = self.made(world)
                session.trial(look=look)
                session.trial(look)
                self.check(session, kept)

    def test_look_gets_this_very_session(self):
        session, kept = self.made()
        got = []
        session.trial(got.append)
        self.assertEqual(len(got), 1)
        self.assertIs(got[0], session)
        self.check(session, kept)

    def test_result(self):
        session, kept = self.made()
        for value in [*odd_values(), session, Odd("returned")]:
            self.assertIs(session.trial(lambda own: value), value)
        self.assertEqual(session.trial(lambda own: own.do(("same", "a", "x", "x"))), True)
        self.assertEqual(session.trial(len), 10)
        self.assertIsNone(session.trial(Session.back))
        self.check(session, kept)

    def test_the_look_sees_what_it_does(self):
        session, kept = self.made()

        def look(own):
            own.do(("number", "a", "x", 77))
            own.do(("put", "a", "root", "f", "x"))
            self.assertEqual((len(own), own.machine().value("a", "x"), own.program()[-1][0]), (12, 77, "put"))
            own.back()
            self.assertEqual(len(own), 11)
            own.back_to(4)
            self.assertEqual(seen(own), kept[4])
            return own.machine()

        self.assertEqual(probed(session.trial(look)), kept[4][0])
        self.check(session, kept)

    def test_own_error(self):
        for error in (Odd("x"), KeyError(1), TrailError(), BadStep(7), ZeroDivisionError(), KeyboardInterrupt(), StopIteration()):
            session, kept = self.made()

            def look(own):
                own.do(("revoke", "q"))
                own.collect()
                own.back_to(3)
                own.do(("new", "c", "x"))
                raise error

            with self.assertRaises(type(error)) as caught:
                session.trial(look)
            self.assertIs(caught.exception, error)
            self.check(session, kept)

    def test_errors_of_the_session(self):
        def bad_step(own):
            own.do(("new", "a", "x"))
            own.do(("new", "a", "root"))

        def bad_mark(own):
            own.back_to(2)
            own.back_to(3)

        def nothing_done(own):
            own.back_to(0)
            own.back()

        for look, error in ((bad_step, BadStep), (bad_mark, BadMark), (nothing_done, NothingDone)):
            session, kept = self.made()
            with self.assertRaises(error):
                session.trial(look)
            self.check(session, kept)

    def test_a_caught_error(self):
        session, kept = self.made()

        def look(own):
            try:
                own.do(None)
            except BadStep:
                own.do(("new", "a", "x"))
                return len(own)

        self.assertEqual(session.trial(look), 11)
        self.check(session, kept)

    def test_trials_within_trials(self):
        session, kept = self.made()

        def inner(own):
            own.back_to(1)
            own.do(("revoke", "p"))
            return own.trial(lambda deep: (deep.back_to(0), len(deep), deep.do(("new", "a", "y"))))

        def raising(own):
            own.do(("revoke", "q"))
            raise Odd("inner")

        def outer(own):
            own.do(("number", "a", "x", 5))
            before = seen(own)
            self.assertEqual(own.trial(inner), (None, 0, None))
            self.assertEqual(seen(own), before)
            with self.assertRaises(Odd):
                own.trial(raising)
            self.assertEqual(seen(own), before)
            own.back()
            self.assertEqual(seen(own), kept[-1])
            own.back()
            self.assertEqual(seen(own), kept[-2])
            own.trial(inner)
            self.assertEqual(seen(own), kept[-2])
            own.do(("new", "b", "x"))
            return len(own)

        self.assertEqual(session.trial(outer), 10)
        self.check(session, kept)

    def test_an_error_through_all_trials(self):
        session, kept = self.made()

        def look(own, depth):
            own.back()
            own.do(("number", "a", "x", depth))
            if depth == 0:
                raise Odd("deep")
            own.trial(lambda deep: look(deep, depth - 1))

        with self.assertRaises(Odd):
            session.trial(lambda own: look(own, 6))
        self.check(session, kept)

    def test_at_the_beginning(self):
        session = Session(LINE)
        self.assertEqual(session.trial(lambda own: own.do(("new", "a", "x")) or len(own)), 1)
        self.assertEqual(seen(session), seen(Session(LINE)))
        self.assertRaises(NothingDone, session.back)
        with self.assertRaises(NothingDone):
            session.trial(Session.back)

    def test_trial_is_no_call_that_can_be_taken_back(self):
        session = Session(HUB)
        session.do(("new", "a", "x"))
        session.trial(lambda own: own.do(("new", "a", "y")))
        self.assertEqual((len(session), session.program()), (1, (("new", "a", "x"),)))

    def test_drawn_trials(self):
        for world in machine_worlds():
            for chance in chances(127, 1):
                session, kept = Session(world), []
                for _ in range(4):
                    drawn_calls(chance, session, 4, kept=kept)

                    def look(own, depth=3):
                        drawn_calls(chance, own, chance.randint(0, 4))
                        own.back_to(chance.randint(0, len(own)))
                        drawn_calls(chance, own, chance.randint(0, 3))
                        if depth:
                            before = seen(own)
                            own.trial(lambda deep: look(deep, depth - 1))
                            self.assertEqual(seen(own), before)

                    session.trial(look)
                self.check(session, [*kept, seen(session)])


if __name__ == "__main__":
    unittest.main()
