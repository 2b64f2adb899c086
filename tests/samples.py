"""Worlds, odd values and slow but plain answers, for the tests."""

import itertools
import random
import string

LINE = (("a", "b", "c"), (("p", ("a", "b"), "wrap"), ("q", ("b", "c"), "wrap")))
RING = (("a", "b", "c"), (("p", ("a", "b"), "wrap"), ("q", ("b", "c"), "wrap"), ("r", ("a", "c"), "wrap")))
LONE = (("a",), ())
HUB = (("a", "b", "c"), (("h", ("a", "b", "c"), "wrap"),))
TWIN = (("a", "b"), (("p", ("a", "b"), "wrap"), ("q", ("a", "b"), "open")))
# Gateways and regions of the same names.
NAMESAKES = (("a", "b", "c"), (("a", ("a", "b"), "wrap"), ("b", ("a", "b", "c"), "open"), ("c", ("b", "c"), "wrap")))
APART = (("a", "b", "c", "d"), (("p", ("a", "b"), "open"), ("q", ("c", "d"), "wrap")))


def nested(depth, wrap):
    """A value in as many layers."""
    value = "a"
    for _ in range(depth):
        value = wrap(value)
    return value


def odd_values():
    """Values of all kinds; made anew each time, since lists and dicts could be changed."""
    return [
        0, 1, -1, 2, 10 ** 60, True, False, None,
        "", "a", "b", "p", "q", "wrap", "open", "A", "ab1", "a b", "abcdefghi", "\u00e4", "root", "x" * 20000,
        (), ("a",), ("a", "b"), ("p", "a"), ("p", "a", "b"), (("a",), ()), ((), ()), (None, None), ((("a", "p"),),),
        [], ["a"], ["a", "b"], ["p", "a", "b"], [["a"], []], [("a",), ()],
        {}, {"a": "b"}, {"a": ("b",), 1: None}, {(): [{}]},
        nested(20, lambda value: (value,)), nested(20, lambda value: [value]), nested(20, lambda value: {"a": value}),
    ]


def deep_list(value):
    return [deep_list(part) for part in value] if isinstance(value, tuple) else value


def changed(value):
    """The value with one part, at any depth, replaced, left out, doubled or turned into a list."""
    yield from odd_values()
    if not isinstance(value, tuple):
        return
    yield list(value)
    yield deep_list(value)
    yield value[::-1]
    for at, part in enumerate(value):
        yield value[:at] + value[at + 1:]
        yield value[:at] + (part, part) + value[at + 1:]
        for other in changed(part):
            yield value[:at] + (other,) + value[at + 1:]


def ring_world(size, kinds):
    """A ring of as many gateways; kinds says which of them wrap."""
    regions = tuple(string.ascii_lowercase[:size])
    gateways = []
    for at in range(size):
        ends = tuple(sorted((regions[at], regions[(at + 1) % size])))
        gateways.append(("g" + regions[at], ends, kinds[at % len(kinds)]))
    return (regions, tuple(gateways))


def random_world(chance, most_regions, most_gateways, most_members, kinds=("wrap", "open"), full=False):
    """A world of any size up to these; if it is to be full, with as many regions and gateways as it may have."""
    regions = tuple(string.ascii_lowercase[:most_regions if full else chance.randint(1, most_regions)])
    gateways = []
    if len(regions) > 1:
        for at in range(most_gateways if full else chance.randint(0, most_gateways)):
            count = chance.randint(2, min(most_members, len(regions)))
            gateways.append(("g" + string.ascii_lowercase[at], tuple(sorted(chance.sample(regions, count))),
                             chance.choice(kinds)))
    return (regions, tuple(gateways))


def random_worlds(seed, count, *sizes, **more):
    chance = random.Random(seed)
    return [random_world(chance, *sizes, **more) for _ in range(count)]


def fixed_worlds():
    worlds = [LINE, RING, LONE, HUB, TWIN, NAMESAKES, APART, (("a", "b"), ())]
    for size in range(2, 11):
        for kinds in (("wrap",), ("open",), ("open", "wrap"), ("open",) * (size - 1) + ("wrap",)):
            worlds.append(ring_world(size, kinds))
    # Two rings of 3 and of 2 with one region in common, and two with one gateway in common.
    worlds.append((("a", "b", "c", "d"), (
        ("p", ("a", "b"), "wrap"), ("q", ("b", "c"), "wrap"), ("r", ("a", "c"), "wrap"),
        ("s", ("c", "d"), "open"), ("t", ("c", "d"), "open"))))
    worlds.append((("a", "b", "c", "d", "e"), (
        ("p", ("a", "b"), "wrap"), ("q", ("b", "c"), "open"), ("r", ("a", "c"), "open"),
        ("s", ("a", "d"), "wrap"), ("t", ("d", "e"), "wrap"), ("u", ("b", "e"), "wrap"))))
    # A hub on a ring, a hub beside one, and trees of hubs.
    worlds.append((("a", "b", "c", "d"), (("h", ("a", "b", "c", "d"), "wrap"), ("p", ("a", "b"), "open"))))
    worlds.append((("a", "b", "c", "d", "e"), (
        ("h", ("a", "d", "e"), "wrap"), ("p", ("a", "b"), "open"), ("q", ("b", "c"), "wrap"), ("r", ("a", "c"), "open"))))
    worlds.append((("a", "b", "c", "d", "e"), (("h", ("a", "b", "c"), "wrap"), ("i", ("c", "d", "e"), "wrap"))))
    # A line of nine gateways over ten regions, and a star.
    ten = tuple("abcdefghij")
    worlds.append((ten, tuple(("g" + ten[at], (ten[at], ten[at + 1]), "wrap") for at in range(9))))
    worlds.append((ten, tuple(("g" + ten[at], ("a", ten[at]), "wrap") for at in range(1, 10))))
    return worlds


def full_world(kinds):
    """Ten gateways, each between all of ten regions."""
    ten = tuple("abcdefghij")
    return (ten, tuple(("g" + ten[at], ten, kinds[at % len(kinds)]) for at in range(10)))


def all_worlds():
    """Worlds small enough for the slow answers below."""
    return (fixed_worlds() + random_worlds(1, 150, 5, 5, 4) + random_worlds(2, 60, 10, 10, 2)
            + random_worlds(20, 10, 10, 10, 2, full=True)
            + random_worlds(3, 30, 5, 5, 4, kinds=("wrap",)) + random_worlds(4, 10, 5, 5, 4, kinds=("open",)))


def table(world):
    return {name: ends for name, ends, kind in world[1]}


def wraps(world):
    return [name for name, ends, kind in world[1] if kind == "wrap"]


def all_paths(world, most=10):
    """All paths of the world with at most this many gateways, by going on in every way."""
    found = []
    waiting = [(region,) for region in world[0]]
    while waiting:
        path = waiting.pop()
        found.append(path)
        for name, ends in table(world).items():
            if len(path) // 2 < most and path[-1] in ends and name not in path[1::2]:
                waiting.extend(path + (name, end) for end in ends if end not in path[::2])
    return found


def all_cycles(world, most=10):
    """All cycles with at most this many gateways: paths that one more gateway leads back to their start."""
    ends = table(world)
    found = []
    for path in all_paths(world, most - 1):
        for name in ends:
            if len(path) > 1 and name not in path[1::2] and path[0] in ends[name] and path[-1] in ends[name]:
                found.append(tuple(zip(path[::2], path[1::2] + (name,))))
    return found


def pieces(world, names):
    """The sets of regions that these gateways hold together, by joining sets."""
    groups = [{region} for region in world[0]]
    for name in names:
        ends = table(world)[name]
        joined = [group for group in groups if group & set(ends)]
        groups = [group for group in groups if not group & set(ends)] + [set().union(*joined)]
    return groups


def all_crossings(world):
    return [(name, start, end) for name, ends, kind in world[1] if kind == "wrap"
            for start, end in itertools.permutations(ends, 2)]


def follows(world, before, behind):
    opened = [name for name, ends, kind in world[1] if kind == "open"]
    together = any({before[2], behind[1]} <= group for group in pieces(world, opened))
    return before[0] != behind[0] and together


def random_trail(chance, world, length):
    """A trail of this length, or a shorter one where it cannot go on."""
    crossings = all_crossings(world)
    trail = ()
    for _ in range(length):
        ways = [crossing for crossing in crossings if not trail or follows(world, trail[-1], crossing)]
        if not ways:
            break
        trail += (chance.choice(ways),)
    return trail
