"""What holds of all functions: how they are called, and that a call changes nothing."""

import copy
import inspect
import os
import subprocess
import sys
import unittest

from samples import HUB, LINE, LONE, NAMESAKES, RING, TWIN, full_world, odd_values, ring_world
from wraptrails import cycles, errors, trails, worlds

AB = ("p", "a", "b")
WORLDS = (LONE, LINE, RING, HUB, TWIN, NAMESAKES, ring_world(6, ("wrap", "open")), full_world(("wrap", "open")))

PARAMETERS = {
    worlds.is_world: ("value",),
    worlds.members: ("world", "name"),
    worlds.with_open: ("world", "names"),
    worlds.plain: ("world",),
    cycles.is_path: ("world", "value"),
    cycles.is_cycle: ("world", "value"),
    cycles.connected: ("world", "one", "other", "without"),
    cycles.zones: ("world",),
    cycles.quiet: ("world",),
    cycles.noticed: ("world",),
    cycles.girth: ("world",),
    cycles.shortest_cycle: ("world",),
    trails.is_trail: ("world", "value"),
    trails.crossed: ("trail", "gateway", "start", "end"),
    trails.inward: ("trail", "along"),
    trails.outward: ("trail", "along"),
}

# Prints results that could depend on the order of a set.
SHOW = """
from samples import all_worlds
from wraptrails.cycles import noticed, quiet, shortest_cycle, zones
print([(zones(world), quiet(world), noticed(world), shortest_cycle(world)) for world in all_worlds()])
"""


def calls():
    """(function, arguments) for every function, with values of every kind where they are allowed."""
    found = [(worlds.is_world, (value,)) for value in [*odd_values(), *WORLDS]]
    for world in WORLDS:
        for function in (worlds.plain, cycles.zones, cycles.quiet, cycles.noticed, cycles.girth, cycles.shortest_cycle):
            found.append((function, (world,)))
        for function in (worlds.members, cycles.is_path, cycles.is_cycle, trails.is_trail):
            found.extend((function, (world, value)) for value in odd_values())
        names = tuple(name for name, ends, kind in world[1])
        found.extend((worlds.with_open, (world, names[:at])) for at in range(len(names)))
        found.extend((worlds.with_open, (world, names[:1] + (value,))) for value in odd_values())
        found.append((cycles.connected, (world, world[0][0], world[0][-1], names[1:])))
    for trail in ((), (AB,), (AB, ("q", "b", "c"))):
        found.append((trails.crossed, (trail, "p", "b", "a")))
        found.append((trails.inward, (trail, (AB,))))
        found.append((trails.outward, (trail, (AB,))))
    return found


def outcome(function, arguments):
    """The result by position, or the error and what it keeps."""
    try:
        if function is cycles.connected:
            return function(*arguments[:3], without=arguments[3])
        return function(*arguments)
    except errors.UnknownGateway as error:
        return ("error", error.name)


def outcome_by_name(function, arguments):
    try:
        return function(**dict(zip(PARAMETERS[function], arguments, strict=True)))
    except errors.UnknownGateway as error:
        return ("error", error.name)


class Calls(unittest.TestCase):
    def test_every_function_is_called(self):
        self.assertEqual({function for function, arguments in calls()}, set(PARAMETERS))

    def test_parameters(self):
        for function, names in PARAMETERS.items():
            parameters = inspect.signature(function).parameters
            self.assertEqual(tuple(parameters), names)
            for name, parameter in parameters.items():
                only_by_name = function is cycles.connected and name == "without"
                kind = parameter.KEYWORD_ONLY if only_by_name else parameter.POSITIONAL_OR_KEYWORD
                self.assertEqual(parameter.kind, kind)
                self.assertEqual(parameter.default, () if only_by_name else parameter.empty)

    def test_arguments_do_not_change(self):
        for function, arguments in calls():
            before = copy.deepcopy(arguments)
            outcome(function, arguments)
            self.assertEqual(arguments, before)
            self.assertEqual(repr(arguments), repr(before))

    def test_equal_calls(self):
        for (function, arguments), (again, others) in zip(calls(), calls(), strict=True):
            self.assertIs(function, again)
            self.assertEqual(outcome(function, arguments), outcome(function, others))

    def test_by_name(self):
        for function, arguments in calls():
            self.assertEqual(outcome_by_name(function, arguments), outcome(function, arguments))

    def test_results_hold_tuples_only(self):
        for function, arguments in calls():
            result = outcome(function, arguments)
            if result is not None and not isinstance(result, (bool, int)) and result[:1] != ("error",):
                self.assertIsInstance(result, tuple)
                self.assertNotIn("[", repr(result))

    def test_every_run_gives_the_same(self):
        here = os.path.dirname(os.path.abspath(__file__))
        path = os.pathsep.join([here, os.path.dirname(here)])
        shown = []
        for seed in ("0", "1", "2"):
            surroundings = {**os.environ, "PYTHONPATH": path, "PYTHONHASHSEED": seed, "PYTHONDONTWRITEBYTECODE": "1"}
            shown.append(subprocess.run([sys.executable, "-c", SHOW], env=surroundings, check=True,
                                        capture_output=True).stdout)
        self.assertGreater(len(shown[0]), 1000)
        self.assertEqual(shown, shown[:1] * 3)


if __name__ == "__main__":
    unittest.main()
