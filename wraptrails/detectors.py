"""The shortest programs that notice that gateways wrap."""

from wraptrails.cycles import girth, shortest_cycle
from wraptrails.differences import differences
from wraptrails.errors import Unnoticed
from wraptrails.programs import has_revoke, is_program


def steps_needed(world):
    """Return the number of steps of the shortest program that notices that gateways wrap, or None."""
    gateways = girth(world)
    if gateways is None:
        return None
    # Each gateway is entered once. All but the first and the last one pass the reference on, two of them by one put
    # and one get. The last step compares.
    pairs = (gateways - 1) // 2
    return gateways + 2 * pairs + 1


def through_one(way):
    """Return the steps that pass the variable x to the next region: it reads what the one before stored at home."""
    before, gateway, behind = way
    return (
        ("put", before, "root", "f", "x"),
        ("enter", behind, "l", gateway, before),
        ("get", behind, "l", "f", "x"),
    )


def through_two(way):
    """Return the steps that pass the variable x to the next region but one: both meet in the region between them."""
    before, gateway, middle, other, behind = way
    return (
        ("enter", before, "l", gateway, middle),
        ("put", before, "l", "f", "x"),
        ("enter", behind, "l", other, middle),
        ("get", behind, "l", "f", "x"),
    )


def passed_on(path):
    """Return the steps that pass the variable x from the first region of a path to the last one."""
    steps = []
    rest = path
    while len(rest) > 3:
        steps.extend(through_two(rest[:5]))
        rest = rest[4:]
    if len(rest) > 1:
        steps.extend(through_one(rest))
    return steps


def detector(world):
    """Return a program with the fewest steps that notices that gateways wrap, by its last step."""
    cycle = shortest_cycle(world)
    if cycle is None:
        raise Unnoticed()
    # A reference to the root of the first region takes the long way to the last region, and another one the short way.
    home, first = cycle[0]
    end, last = cycle[-1]
    path = tuple([part for pair in cycle[1:] for part in pair][:-1])
    steps = [("enter", path[0], "x", first, home)]
    steps.extend(passed_on(path))
    steps.extend([("enter", end, "y", last, home), ("same", end, "x", "y")])
    return tuple(steps)


def shows_detector(world, value):
    """Tell whether any value is a program without a revoke step whose answers differ from those in the plain world."""
    if not is_program(world, value) or has_revoke(value):
        return False
    return differences(world, value) != ()
