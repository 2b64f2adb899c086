"""Worlds: regions and the gateways between them.

A world is a tuple (regions, gateways), a gateway a tuple (name, members, kind).
"""

from wraptrails.errors import UnknownGateway

LETTERS = "abcdefghijklmnopqrstuvwxyz"
LONGEST_NAME = 8
MOST_REGIONS = 10
MOST_GATEWAYS = 10
KINDS = ("wrap", "open")


def is_name(value):
    """Tell whether any value is a NAME."""
    if not isinstance(value, str):
        return False
    return 1 <= len(value) <= LONGEST_NAME and all([letter in LETTERS for letter in value])


def is_ascending(names):
    """Tell whether strings are in order, none of them twice."""
    return all([one < other for one, other in zip(names, names[1:])])


def is_regions(value):
    """Tell whether any value can be the regions of a world."""
    if not isinstance(value, tuple) or not 1 <= len(value) <= MOST_REGIONS:
        return False
    return all([is_name(region) for region in value]) and is_ascending(value)


def is_members(regions, value):
    """Tell whether any value can be the members of a gateway between these regions."""
    if not isinstance(value, tuple) or len(value) < 2:
        return False
    return all([region in regions for region in value]) and is_ascending(value)


def is_gateway(regions, value):
    """Tell whether any value can be a gateway between these regions."""
    if not isinstance(value, tuple) or len(value) != 3:
        return False
    name, those, kind = value
    return is_name(name) and is_members(regions, those) and kind in KINDS


def is_gateways(regions, value):
    """Tell whether any value can be all gateways of a world with these regions."""
    if not isinstance(value, tuple) or len(value) > MOST_GATEWAYS:
        return False
    if not all([is_gateway(regions, gateway) for gateway in value]):
        return False
    # Different names in order: then the gateways are in order, too.
    return is_ascending([gateway[0] for gateway in value])


def is_world(value):
    """Tell whether any value is a world."""
    if not isinstance(value, tuple) or len(value) != 2:
        return False
    regions, gateways = value
    return is_regions(regions) and is_gateways(regions, gateways)


def gateway_names(world):
    """Return the names of all gateways, ascending."""
    return tuple([gateway[0] for gateway in world[1]])


def wrapping_names(world):
    """Return the names of the wrapping gateways, ascending."""
    return tuple([name for name, those, kind in world[1] if kind == "wrap"])


def members(world, name):
    """Return the members of the gateway with this name, which may be any value."""
    # A loop instead of a dict, since not every value can be a key.
    for gateway in world[1]:
        if gateway[0] == name:
            return gateway[1]
    raise UnknownGateway(name)


def leads(world, name, start, end):
    """Tell whether the gateway with this name has any two values as two different members."""
    those = members(world, name)
    return start in those and end in those and start != end


def with_open(world, names):
    """Return the world in which exactly these gateways are open and all others wrap."""
    regions, gateways = world
    known = gateway_names(world)
    for name in names:
        if name not in known:
            raise UnknownGateway(name)
    changed = []
    for gateway in gateways:
        kind = "open" if gateway[0] in names else "wrap"
        changed.append((gateway[0], gateway[1], kind))
    return (regions, tuple(changed))


def plain(world):
    """Return the world in which all gateways are open."""
    return with_open(world, gateway_names(world))
