"""Cuts: the fewest wrapping gateways that separate two regions, and what is cut in a machine."""

from wraptrails.cycles import connected, is_path, shortest_path
from wraptrails.worlds import is_ascending, wrapping_names


def rooms(world):
    """Return how many paths can go from each place to each next one.

    A path goes from a region into a gateway, through it, and out to a region. Only one path goes through a wrapping
    gateway; everywhere else there is room for more paths than there can be.
    """
    many = len(world[1]) + 1
    room = {}
    for name, those, kind in world[1]:
        room[(("in", name), ("out", name))] = 1 if kind == "wrap" else many
        for region in those:
            room[(("at", region), ("in", name))] = many
            room[(("out", name), ("at", region))] = many
    return room


def routes(room, start):
    """Return a shortest route to each place that can be reached where there is room."""
    found = {start: (start,)}
    waiting = [start]
    while waiting:
        place = waiting.pop(0)
        for before, behind in room:
            if before == place and room[(before, behind)] > 0 and behind not in found:
                found[behind] = found[place] + (behind,)
                waiting.append(behind)
    return found


def filled(world, start, goal):
    """Return the room that is left when no further path from start to goal can be added."""
    room = rooms(world)
    route = routes(room, start).get(goal)
    while route is not None:
        for before, behind in zip(route, route[1:]):
            room[(before, behind)] -= 1
            # A later path may send this one another way.
            room[(behind, before)] = room.get((behind, before), 0) + 1
        route = routes(room, start).get(goal)
    return room


def paths_within(used, start, goal):
    """Return the paths that together go as often from place to place as `used` says."""
    left = {part: used[part] for part in used}
    paths = []
    route = routes(left, start).get(goal)
    while route is not None:
        for part in zip(route, route[1:]):
            left[part] -= 1
        paths.append(tuple([name for where, name in route if where != "out"]))
        route = routes(left, start).get(goal)
    return tuple(paths)


def least_cut(world, one, other):
    """Return ("open", path), or ("cut", names, paths) with the fewest gateways that separate two regions."""
    walls = wrapping_names(world)
    path = shortest_path(world, one, other, walls)
    if path is not None:
        return ("open", path)
    start = ("at", one)
    goal = ("at", other)
    room = filled(world, start, goal)
    reached = routes(room, start)
    names = [name for name in walls if ("in", name) in reached and ("out", name) not in reached]
    # What can be taken back is what is used.
    used = {(before, behind): room.get((behind, before), 0) for before, behind in rooms(world)}
    return ("cut", tuple(names), paths_within(used, start, goal))


def leads_to(world, one, other, value):
    """Tell whether any value is a path between these two regions."""
    return is_path(world, value) and value[0] == one and value[-1] == other


def walls_on(world, path):
    """Return the wrapping gateways on a path."""
    walls = wrapping_names(world)
    return [name for name in path[1::2] if name in walls]


def separates(world, one, other, value):
    """Tell whether any value is an ascending tuple of wrapping gateways, one of them on each path."""
    walls = wrapping_names(world)
    if not isinstance(value, tuple) or not all([name in walls for name in value]) or not is_ascending(value):
        return False
    return not connected(world, one, other, without=value)


def are_apart(world, one, other, value):
    """Tell whether any value is a tuple of paths between these regions that share no wrapping gateway."""
    if not isinstance(value, tuple) or not all([leads_to(world, one, other, path) for path in value]):
        return False
    names = [name for path in value for name in walls_on(world, path)]
    return len(set(names)) == len(names)


def shows_cut(world, one, other, value):
    """Tell whether any value is what least_cut may return."""
    if not isinstance(value, tuple) or not 2 <= len(value) <= 3:
        return False
    if len(value) == 2:
        return value[0] == "open" and leads_to(world, one, other, value[1]) and not walls_on(world, value[1])
    kind, names, paths = value
    if kind != "cut" or not separates(world, one, other, names) or not are_apart(world, one, other, paths):
        return False
    return len(names) == len(paths)


def cut_variables(machine):
    """Return (region, name) for each variable whose trail crosses a revoked gateway, ascending."""
    found = []
    for region, own in machine.variables.items():
        found.extend([(region, name) for name, value in own.items() if machine.refusal(value) == "cut"])
    return tuple(sorted(found))
