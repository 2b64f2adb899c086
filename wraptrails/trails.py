"""Trails: the crossings by which a reference was wrapped."""

from wraptrails.cycles import zones
from wraptrails.worlds import leads, wrapping_names


def is_crossing(world, value):
    """Tell whether any value is a crossing of the world."""
    if not isinstance(value, tuple) or len(value) != 3:
        return False
    gateway, start, end = value
    return gateway in wrapping_names(world) and leads(world, gateway, start, end)


def is_trail(world, value):
    """Tell whether any value is a trail of the world."""
    if not isinstance(value, tuple) or not all([is_crossing(world, crossing) for crossing in value]):
        return False
    zone_with = {region: zone for zone in zones(world) for region in zone}
    for before, behind in zip(value, value[1:]):
        if before[0] == behind[0] or zone_with[before[2]] != zone_with[behind[1]]:
            return False
    return True


def crossed(trail, gateway, start, end):
    """Return the trail of a value after it has crossed a wrapping gateway."""
    if not trail or trail[-1][0] != gateway:
        return trail + ((gateway, start, end),)
    home = trail[-1][1]
    if home == end:
        return trail[:-1]
    return trail[:-1] + ((gateway, home, end),)


def inward(trail, along):
    """Return the trail of a value that is passed through a reference with the trail `along`."""
    passed = trail
    for gateway, start, end in reversed(along):
        passed = crossed(passed, gateway, end, start)
    return passed


def outward(trail, along):
    """Return the trail of a value that is returned through a reference with the trail `along`."""
    passed = trail
    for gateway, start, end in along:
        passed = crossed(passed, gateway, start, end)
    return passed
