"""Paths, cycles and zones of a world."""

from wraptrails.worlds import gateway_names, members, wrapping_names


def are_different(values, known):
    """Tell whether any values are among the known names, each at most once."""
    return all([value in known for value in values]) and len(set(values)) == len(values)


def are_joined(world, regions, names):
    """Tell whether each gateway has the region before it and the one behind it as members."""
    for before, name, behind in zip(regions, names, regions[1:]):
        those = members(world, name)
        if before not in those or behind not in those:
            return False
    return True


def is_path(world, value):
    """Tell whether any value is a path of the world."""
    if not isinstance(value, tuple) or len(value) % 2 == 0:
        return False
    regions = value[::2]
    names = value[1::2]
    if not are_different(regions, world[0]) or not are_different(names, gateway_names(world)):
        return False
    return are_joined(world, regions, names)


def is_pair(value):
    """Tell whether any value is a tuple of two items."""
    return isinstance(value, tuple) and len(value) == 2


def is_cycle(world, value):
    """Tell whether any value is a cycle of the world."""
    if not isinstance(value, tuple) or len(value) < 2 or not all([is_pair(pair) for pair in value]):
        return False
    regions = [pair[0] for pair in value]
    names = [pair[1] for pair in value]
    if not are_different(regions, world[0]) or not are_different(names, gateway_names(world)):
        return False
    return are_joined(world, regions + [regions[0]], names)


def exits(world, region, without):
    """Return (gateway, region) for each way to another region through one gateway."""
    ways = []
    for name, those, kind in world[1]:
        if region in those and name not in without:
            ways.extend([(name, other) for other in those if other != region])
    return ways


def shortest_path(world, one, other, without):
    """Return a path with the fewest gateways, none of them in `without`, or None."""
    paths = {one: (one,)}
    farthest = [one]
    while farthest and other not in paths:
        reached = []
        for region in farthest:
            for name, behind in exits(world, region, without):
                if behind not in paths:
                    paths[behind] = paths[region] + (name, behind)
                    reached.append(behind)
        farthest = reached
    return paths.get(other)


def connected(world, one, other, *, without=()):
    """Tell whether there is a path between two regions that has none of these gateways."""
    return shortest_path(world, one, other, without) is not None


def zone_of(world, region):
    """Return all regions in the zone of a region, ascending."""
    walls = wrapping_names(world)
    return tuple([other for other in world[0] if connected(world, region, other, without=walls)])


def zones(world):
    """Return all zones, ascending."""
    return tuple(sorted({zone_of(world, region) for region in world[0]}))


def cycle_through(world, name):
    """Return a cycle with the fewest gateways among those that contain this one, or None."""
    those = members(world, name)
    paths = [shortest_path(world, one, other, (name,)) for one in those for other in those if one < other]
    path = min([found for found in paths if found is not None], key=len, default=None)
    if path is None:
        return None
    # The gateway leads from the end of the path back to its start, so the end goes with it.
    return ((path[-1], name),) + tuple(zip(path[:-1:2], path[1::2]))


def quiet(world):
    """Return the names of all gateways that lie on no cycle, ascending."""
    return tuple([name for name in gateway_names(world) if cycle_through(world, name) is None])


def noticed(world):
    """Return the names of all wrapping gateways that lie on a cycle, ascending."""
    return tuple([name for name in wrapping_names(world) if cycle_through(world, name) is not None])


def shortest_cycle(world):
    """Return a cycle with the fewest gateways among those that contain a wrapping one, or None."""
    cycles = [cycle_through(world, name) for name in wrapping_names(world)]
    return min([cycle for cycle in cycles if cycle is not None], key=len, default=None)


def girth(world):
    """Return the number of gateways on the shortest cycle with a wrapping one, or None."""
    cycle = shortest_cycle(world)
    return None if cycle is None else len(cycle)
