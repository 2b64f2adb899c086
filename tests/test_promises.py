"""The promises of section 3 over the whole program, with drawn worlds and programs."""

import itertools
import unittest

from samples import random_worlds, table, wraps
from slow import NAMES, SlowMachine, chances, drawn_program, drawn_step, machine_worlds, quiet_worlds, tree_world
from test_cuts import all_routes, fewest, walls
from test_detectors import formula, slow_girth
from test_sessions import seen
from wraptrails.builders import Builder
from wraptrails.continuations import continuation, shows_continuation
from wraptrails.cuts import cut_variables, least_cut, shows_cut
from wraptrails.cycles import connected, noticed, quiet, shortest_cycle
from wraptrails.desks import Desk
from wraptrails.detectors import detector, shows_detector, steps_needed
from wraptrails.differences import compared, differences
from wraptrails.errors import BadLine, ClosesCycle, NothingDone
from wraptrails.machines import Machine, answers
from wraptrails.reading import read_program, read_trail, read_world
from wraptrails.sessions import Session
from wraptrails.showing import show_answer, show_program, show_step, show_trail, show_world
from wraptrails.trailmachine import TrailMachine
from wraptrails.worlds import plain, with_open


def drawn_worlds(seed):
    """Worlds with and without noticed gateways, of up to ten regions and gateways."""
    trees = [tree_world(chance) for chance in chances(seed, 15)]
    return trees + random_worlds(seed, 40, 5, 5, 4) + random_worlds(seed + 1, 20, 10, 10, 3) + random_worlds(seed + 2, 20, 3, 3, 3)


def values(machine):
    return [machine.value(region, name) for region, name in itertools.product(machine.own_world[0], (*NAMES, "root"))]


class Promises(unittest.TestCase):
    def test_a_unnoticed(self):
        for world in drawn_worlds(200):
            silent = quiet(world)
            loud = tuple(name for name in table(world) if name not in silent)
            # Every subset of the quiet gateways wraps unnoticed; one more gateway is noticed.
            for chance in chances(203, 3):
                some = chance.sample(silent, chance.randint(0, len(silent)))
                others = tuple(name for name in table(world) if name not in some)
                still = with_open(world, others)
                program = drawn_program(chance, still, 60)
                self.assertEqual(answers(still, program), answers(plain(world), program))
                self.assertEqual((differences(still, program), steps_needed(still), noticed(still)), ((), None, ()))
                for name in loud:
                    told = with_open(world, tuple(other for other in others if other != name))
                    self.assertTrue(shows_detector(told, detector(told)))

    def test_b_trails(self):
        different = 0
        for world, chance in itertools.product(machine_worlds() + drawn_worlds(210)[::4], chances(213, 4)):
            program = drawn_program(chance, world, 100)
            machine, other = Machine(world), TrailMachine(world)
            for step in program:
                self.assertEqual(repr(machine.do(step)), repr(other.do(step)))
            self.assertEqual(values(machine), values(other))
            found = differences(world, program)
            self.assertEqual(found, tuple(at for at, _, one, two in compared(world, program) if one != two))
            different += len(found)
        self.assertGreater(different, 20)

    def test_c_soonest(self):
        for world in drawn_worlds(220):
            gateways = slow_girth(world)
            if gateways is None:
                self.assertIsNone(steps_needed(world))
                continue
            program = detector(world)
            self.assertEqual((len(program), steps_needed(world)), (formula(gateways),) * 2)
            self.assertEqual(differences(world, program), (len(program) - 1,))
            # Programs with fewer steps have the same answers in the plain world.
            for chance in chances(223, 20):
                self.assertEqual(differences(world, drawn_program(chance, world, len(program) - 1)), ())

    def test_d_cut(self):
        for world in quiet_worlds()[:80] + drawn_worlds(230):
            machine = Machine(world)
            program = drawn_program(chances(233, 1)[0], world, 60, revokes=4)
            machine.run(program)
            found = cut_variables(machine)
            slow = SlowMachine(world)
            for step in program:
                slow.do(step)
            homes = [thing.home for thing in slow.things]
            for region, name in itertools.product(world[0], (*NAMES, "root")):
                value = machine.value(region, name)
                crosses = isinstance(value, tuple) and any(name in machine.revoked() for name, _, _ in value[2])
                self.assertEqual((region, name) in found, crosses)
                answer = machine.copied().do(("get", region, name, "f", "probe"))
                self.assertEqual(answer == "cut", crosses)
                if isinstance(value, tuple) and not noticed(world):
                    self.assertEqual(crosses, not connected(world, region, homes[value[1]], without=machine.revoked()))

    def test_d_least_cut(self):
        for world in random_worlds(235, 60, 5, 6, 3):
            for pair, paths in all_routes(world).items():
                result = least_cut(world, *pair)
                self.assertTrue(shows_cut(world, *pair, result))
                if result[0] == "open":
                    self.assertEqual(walls(world, result[1]), [])
                else:
                    self.assertEqual((len(result[1]), len(result[2])), (fewest(world, paths),) * 2)

    def test_e_tables(self):
        for world in machine_worlds() + drawn_worlds(240)[::3]:
            chance = chances(243, 1)[0]
            # One machine forgets what is not needed after each step, another one never.
            machine, tidy, slow = Machine(world), Machine(world), SlowMachine(world)
            for _ in range(60):
                step = drawn_step(chance, slow, revokes=1)
                self.assertEqual(repr(machine.do(step)), repr(slow.do(step)))
                tidy.do(step)
                tidy.collect()
                self.assertEqual(tidy.entries(), machine.needed())
            self.assertEqual((repr(tidy.answers()), values(tidy)), (repr(machine.answers()), values(machine)))
            for entry in machine.needed():
                self.assertTrue(shows_continuation(machine, entry, continuation(machine, entry)))
                self.assertTrue(shows_continuation(tidy, entry, continuation(tidy, entry)))

    def test_f_builders(self):
        refused = 0
        for world in drawn_worlds(250):
            builder = Builder(world[0])
            for name, ends, kind in world[1]:
                smaller = builder.world()
                larger = (world[0], tuple(sorted((*smaller[1], (name, ends, kind)))))
                try:
                    builder.add(name, ends, kind=kind)
                except ClosesCycle as error:
                    self.assertEqual(builder.world(), smaller)
                    self.assertEqual(error.cycle, shortest_cycle(larger))
                    self.assertTrue(set(wraps(larger)) & {gateway for _, gateway in error.cycle})
                    self.assertTrue(shows_detector(larger, detector(larger)))
                    refused += 1
                else:
                    self.assertEqual((builder.world(), noticed(larger), steps_needed(larger)), (larger, (), None))
        self.assertGreater(refused, 30)

    def test_g_texts(self):
        for world in drawn_worlds(260) + machine_worlds():
            self.assertEqual(read_world(show_world(world)), world)
            program = drawn_program(chances(263, 1)[0], world, 50, revokes=3)
            self.assertEqual(repr(read_program(world, show_program(program))), repr(program))
            machine = Machine(world)
            machine.run(program)
            for value in values(machine):
                if isinstance(value, tuple):
                    self.assertEqual(read_trail(world, show_trail(value[2])), value[2])

    def test_g_desks(self):
        for world in drawn_worlds(270):
            program = drawn_program(chances(273, 1)[0], world, 50, revokes=2)
            desk = Desk(show_world(world))
            self.assertEqual([desk.say(show_step(step)) for step in program],
                             [show_answer(answer) for answer in answers(world, program)])
            self.assertEqual(desk.say("detect"), "-" if steps_needed(world) is None
                             else show_program(detector(world)).replace("\n", "/"))
            with self.assertRaises(BadLine):
                desk.say("new " + world[0][0] + " root")
            self.assertEqual(desk.say("count"), "50")

    def test_g_taken_back(self):
        for world in drawn_worlds(280)[::2]:
            chance = chances(283, 1)[0]
            session, kept = Session(world), []
            program = drawn_program(chance, world, 30, revokes=2)
            for at, step in enumerate(program):
                kept.append(seen(session))
                session.do(step)
                if at % 7 == 6:
                    kept.append(seen(session))
                    session.collect()
            self.assertEqual(session.program(), program)
            self.assertEqual(session.machine().answers(), answers(world, program))
            session.trial(lambda own: (own.back_to(chance.randint(0, len(own))), own.do(("new", world[0][0], "x"))))
            while kept:
                session.back()
                self.assertEqual(seen(session), kept.pop())
            self.assertRaises(NothingDone, session.back)


if __name__ == "__main__":
    unittest.main()
