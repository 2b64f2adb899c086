"""What holds of all functions: how they are called, and that a call changes nothing."""

import contextlib
import copy
import inspect
import os
import subprocess
import sys
import unittest

from samples import HUB, LINE, LONE, NAMESAKES, RING, TWIN, full_world, odd_values, ring_world
from slow import chances, drawn_program
from test_steps import state
from wraptrails import (builders, continuations, cuts, cycles, desks, detectors, differences, errors, machines, programs,
                        reading, sessions, showing, trailmachine, trails, worlds)

AB = ("p", "a", "b")
WORLDS = (LONE, LINE, RING, HUB, TWIN, NAMESAKES, ring_world(6, ("wrap", "open")), full_world(("wrap", "open")))

PARAMETERS = {
    worlds.is_world: ("value",),
    worlds.members: ("world", "name"),
    worlds.with_open: ("world", "names"),
    worlds.plain: ("world",),
    cycles.is_path: ("world", "value"),
    cycles.is_cycle: ("world", "value"),
    cycles.connected: ("world", "one", "other", "without"),
    cycles.zones: ("world",),
    cycles.quiet: ("world",),
    cycles.noticed: ("world",),
    cycles.girth: ("world",),
    cycles.shortest_cycle: ("world",),
    trails.is_trail: ("world", "value"),
    trails.crossed: ("trail", "gateway", "start", "end"),
    trails.inward: ("trail", "along"),
    trails.outward: ("trail", "along"),
    programs.is_step: ("world", "value"),
    programs.is_program: ("world", "value"),
    programs.has_revoke: ("program",),
    machines.answers: ("world", "program"),
    differences.differences: ("world", "program"),
    differences.compared: ("world", "program"),
    detectors.steps_needed: ("world",),
    detectors.detector: ("world",),
    detectors.shows_detector: ("world", "value"),
    cuts.least_cut: ("world", "one", "other"),
    cuts.shows_cut: ("world", "one", "other", "value"),
    cuts.cut_variables: ("machine",),
    continuations.continuation: ("machine", "entry"),
    continuations.shows_continuation: ("machine", "entry", "value"),
    showing.show_world: ("world",),
    showing.show_step: ("step",),
    showing.show_program: ("program",),
    showing.show_answer: ("answer",),
    showing.show_trail: ("trail",),
    reading.read_world: ("text",),
    reading.read_program: ("world", "text"),
    reading.read_trail: ("world", "text"),
}

TRAIL_METHODS = {"do": ("step",), "run": ("program",), "answers": (), "value": ("region", "name"), "object_count": (),
                 "revoked": (), "__init__": ("world",), "__len__": ()}
METHODS = {
    machines.Machine: {**TRAIL_METHODS, "entries": (), "needed": (), "collect": (), "forget": ("entry",), "copied": ()},
    trailmachine.TrailMachine: TRAIL_METHODS,
    builders.Builder: {"__init__": ("regions",), "__len__": (), "add": ("name", "members", "kind"), "remove": ("name",),
                       "world": (), "back": ()},
    sessions.Session: {"__init__": ("world",), "__len__": (), "do": ("step",), "collect": (), "back": (), "back_to": ("mark",),
                       "trial": ("look",), "machine": (), "program": ()},
    desks.Desk: {"__init__": ("text",), "say": ("line",)},
}
# Parameters that are passed by name only, and what they are if they are not passed.
BY_NAME = {(cycles.connected, "without"): (), (builders.Builder.add, "kind"): "wrap"}

# Prints results that could depend on the order of a set.
SHOW = """
from samples import all_worlds
from wraptrails.cycles import noticed, quiet, shortest_cycle, zones
print([(zones(world), quiet(world), noticed(world), shortest_cycle(world)) for world in all_worlds()])

from slow import chances, drawn_program, machine_worlds
from wraptrails.continuations import continuation
from wraptrails.cuts import least_cut
from wraptrails.detectors import detector, steps_needed
from wraptrails.differences import compared
from wraptrails.machines import Machine
for world in machine_worlds():
    program = drawn_program(chances(50, 1)[0], world, 80)
    machine = Machine(world)
    print(compared(world, program), machine.run(program), machine.entries(), machine.needed(), machine.collect())
    print([continuation(machine, entry) for entry in machine.needed()])
    print([least_cut(world, one, other) for one in world[0] for other in world[0]])
    print(steps_needed(world) and detector(world))
"""


def calls():
    """(function, arguments) for every function, with values of every kind where they are allowed."""
    found = [(worlds.is_world, (value,)) for value in [*odd_values(), *WORLDS]]
    found.extend((reading.read_world, (value,)) for value in [*odd_values(), *map(showing.show_world, WORLDS)])
    found.extend((showing.show_answer, (answer,)) for answer in (None, True, False, 0, 1, -7, "none", "object", "no object", "cut"))
    for world in WORLDS:
        found.append((showing.show_world, (world,)))
        for function in (worlds.plain, cycles.zones, cycles.quiet, cycles.noticed, cycles.girth, cycles.shortest_cycle,
                         detectors.steps_needed, detectors.detector):
            found.append((function, (world,)))
        for function in (worlds.members, cycles.is_path, cycles.is_cycle, trails.is_trail, programs.is_step,
                         programs.is_program, detectors.shows_detector, reading.read_program, reading.read_trail):
            found.extend((function, (world, value)) for value in odd_values())
        for chance in chances(51, 4):
            program = drawn_program(chance, world, 40, revokes=chance.choice((0, 4)))
            found.append((programs.has_revoke, (program,)))
            found.append((showing.show_program, (program,)))
            found.extend((showing.show_step, (step,)) for step in program[:9])
            found.append((reading.read_program, (world, showing.show_program(program))))
            found.extend((function, (world, program)) for function in (
                programs.is_program, machines.answers, differences.differences, differences.compared,
                detectors.shows_detector))
            found.extend(calls_with(world, program))
        names = tuple(name for name, ends, kind in world[1])
        found.extend((worlds.with_open, (world, names[:at])) for at in range(len(names)))
        found.extend((worlds.with_open, (world, names[:1] + (value,))) for value in odd_values())
        found.append((cycles.connected, (world, world[0][0], world[0][-1], names[1:])))
        for ends in ((world[0][0], world[0][-1]), (world[0][-1], world[0][0]), world[0][:1] * 2):
            found.append((cuts.least_cut, (world, *ends)))
            found.extend((cuts.shows_cut, (world, *ends, value)) for value in [*odd_values(), cuts.least_cut(world, *ends)])
    for trail in ((), (AB,), (AB, ("q", "b", "c"))):
        found.append((showing.show_trail, (trail,)))
        found.append((reading.read_trail, (LINE, showing.show_trail(trail))))
        found.append((trails.crossed, (trail, "p", "b", "a")))
        found.append((trails.inward, (trail, (AB,))))
        found.append((trails.outward, (trail, (AB,))))
    return found


def calls_with(world, program):
    """Calls with a machine that has run the program."""
    machine = machines.Machine(world)
    machine.run(program)
    found = [(cuts.cut_variables, (machine,))]
    for entry in [*odd_values(), *machine.entries()[:3]]:
        found.append((continuations.continuation, (machine, entry)))
        found.extend((continuations.shows_continuation, (machine, entry, value)) for value in odd_values()[::6])
    return found


def comparable(arguments):
    """The arguments with what can be seen of a machine instead of it."""
    return [state(value) if isinstance(value, machines.Machine) else value for value in arguments]


def outcome(function, arguments):
    """The result by position, or the error and what it keeps."""
    try:
        if function is cycles.connected:
            return function(*arguments[:3], without=arguments[3])
        return function(*arguments)
    except errors.TrailError as error:
        return ("error", type(error), vars(error))


def outcome_by_name(function, arguments):
    try:
        return function(**dict(zip(PARAMETERS[function], arguments, strict=True)))
    except errors.TrailError as error:
        return ("error", type(error), vars(error))


class Calls(unittest.TestCase):
    def test_every_function_is_called(self):
        self.assertEqual({function for function, arguments in calls()}, set(PARAMETERS))

    def check_parameter(self, function, name, parameter):
        only_by_name = (function, name) in BY_NAME
        kind = parameter.KEYWORD_ONLY if only_by_name else parameter.POSITIONAL_OR_KEYWORD
        self.assertEqual(parameter.kind, kind)
        self.assertEqual(parameter.default, BY_NAME.get((function, name), parameter.empty))

    def test_parameters(self):
        for function, names in PARAMETERS.items():
            parameters = inspect.signature(function).parameters
            self.assertEqual(tuple(parameters), names)
            for name, parameter in parameters.items():
                self.check_parameter(function, name, parameter)

    def test_parameters_of_methods(self):
        for made, methods in METHODS.items():
            for method, names in methods.items():
                # In the class itself, not only in a base class.
                self.assertIn(method, vars(made))
                parameters = inspect.signature(vars(made)[method]).parameters
                self.assertEqual(tuple(parameters)[1:], names)
                for name, parameter in parameters.items():
                    self.check_parameter(vars(made)[method], name, parameter)

    def test_methods_do_not_change_what_they_are_passed(self):
        for made in (machines.Machine, trailmachine.TrailMachine):
            machine = made(LINE)
            for value, kept in zip(odd_values() + [[("new", "a", "x")]], odd_values() + [[("new", "a", "x")]], strict=True):
                for method in [name for name in ("do", "run", "forget") if name in METHODS[made]]:
                    with contextlib.suppress(errors.TrailError):
                        getattr(machine, method)(value)
                    self.assertEqual(repr(value), repr(kept))
            self.assertEqual(len(machine), 0)

    def test_builders_do_not_change_what_they_are_passed(self):
        builder = builders.Builder(("a", "b"))
        for value, kept in zip(odd_values(), odd_values(), strict=True):
            for call in (lambda: builders.Builder(value), lambda: builder.add(value, value, kind=value),
                         lambda: builder.add("p", value), lambda: builder.remove(value)):
                with contextlib.suppress(errors.TrailError):
                    call()
                self.assertEqual(repr(value), repr(kept))

    def test_sessions_and_desks_do_not_change_what_they_are_passed(self):
        session, desk = sessions.Session(LINE), desks.Desk(showing.show_world(LINE))
        for value, kept in zip(odd_values(), odd_values(), strict=True):
            for call in (session.do, session.back_to, desk.say, desks.Desk):
                with contextlib.suppress(errors.TrailError):
                    call(value)
                self.assertEqual(repr(value), repr(kept))
        self.assertEqual(len(session), 0)

    def test_arguments_do_not_change(self):
        for function, arguments in calls():
            before = copy.deepcopy(comparable(arguments))
            outcome(function, arguments)
            self.assertEqual(comparable(arguments), before)
            self.assertEqual(repr(comparable(arguments)), repr(before))

    def test_equal_calls(self):
        for (function, arguments), (again, others) in zip(calls(), calls(), strict=True):
            self.assertIs(function, again)
            self.assertEqual(outcome(function, arguments), outcome(function, others))

    def test_by_name(self):
        for function, arguments in calls():
            self.assertEqual(outcome_by_name(function, arguments), outcome(function, arguments))

    def test_results_hold_tuples_only(self):
        for function, arguments in calls():
            result = outcome(function, arguments)
            if result is not None and not isinstance(result, (bool, int, str)) and result[:1] != ("error",):
                self.assertIsInstance(result, tuple)
                self.assertNotIn("[", repr(result))

    def test_every_run_gives_the_same(self):
        here = os.path.dirname(os.path.abspath(__file__))
        path = os.pathsep.join([here, os.path.dirname(here)])
        shown = []
        for seed in ("0", "1", "2"):
            surroundings = {**os.environ, "PYTHONPATH": path, "PYTHONHASHSEED": seed, "PYTHONDONTWRITEBYTECODE": "1"}
            shown.append(subprocess.run([sys.executable, "-c", SHOW], env=surroundings, check=True,
                                        capture_output=True).stdout)
        self.assertGreater(len(shown[0]), 1000)
        self.assertEqual(shown, shown[:1] * 3)


if __name__ == "__main__":
    unittest.main()
