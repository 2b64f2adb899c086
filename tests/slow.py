"""A slow and plain machine, written word by word after section 8 of the document, and programs drawn by chance.

It follows chains of wrappers by recursion, searches its tables from their start, and finds out what is live by
asking again until nothing is added.
"""

import random
import string

from samples import (APART, HUB, LINE, LONE, NAMESAKES, RING, TWIN, fixed_worlds, random_worlds, ring_world,
                     wraps)
from wraptrails.cycles import noticed
from wraptrails.worlds import with_open

# A region called root, a gateway called open, names that begin and end alike.
ALIKE = (("a", "aa", "aab", "baa", "root"), (
    ("a", ("a", "aa"), "wrap"), ("aa", ("aa", "aab"), "wrap"), ("aab", ("aab", "baa"), "open"),
    ("open", ("a", "baa", "root"), "wrap"), ("root", ("aa", "root"), "wrap"), ("wrap", ("a", "root"), "open")))
# A gateway of five members, and one that shares two of them.
WIDE = (tuple("abcde"), (("h", tuple("abcde"), "wrap"), ("p", ("a", "b"), "wrap")))
TREE = (tuple("abcde"), (("h", ("a", "b", "c"), "wrap"), ("i", ("c", "d", "e"), "wrap")))

NAMES = ("x", "y", "z", "zz")
FIELDS = ("f", "g", "root")


class Thing:
    def __init__(self, number, home):
        self.number = number
        self.home = home
        self.fields = {}


class Wrapper:
    def __init__(self, gateway, start, target, end):
        self.gateway = gateway
        self.start = start
        self.target = target
        self.end = end


def is_reference(value):
    return isinstance(value, (Thing, Wrapper))


def trail(reference):
    if isinstance(reference, Thing):
        return ()
    return trail(reference.target) + ((reference.gateway, reference.start, reference.end),)


def thing(reference):
    return reference if isinstance(reference, Thing) else thing(reference.target)


def shown(wrapper):
    return (wrapper.gateway, wrapper.start, thing(wrapper).number, trail(wrapper.target), wrapper.end)


class SlowMachine:
    def __init__(self, world):
        self.world = world
        self.things = [Thing(at, region) for at, region in enumerate(world[0])]
        self.variables = {(region, "root"): self.things[at] for at, region in enumerate(world[0])}
        self.tables = {name: [] for name, ends, kind in world[1]}
        self.cut = set()
        self.given = []

    def cross(self, value, gateway, start, end):
        kind = [kind for name, ends, kind in self.world[1] if name == gateway][0]
        if kind == "open" or not is_reference(value):
            return value
        if isinstance(value, Wrapper) and value.gateway == gateway:
            if value.start == end:
                return value.target
            return self.remembered(gateway, value.start, value.target, end)
        return self.remembered(gateway, start, value, end)

    def remembered(self, gateway, start, target, end):
        for wrapper in self.tables[gateway]:
            if wrapper.start == start and wrapper.target is target and wrapper.end == end:
                return wrapper
        self.tables[gateway].append(Wrapper(gateway, start, target, end))
        return self.tables[gateway][-1]

    def store(self, holder, field, value):
        if isinstance(holder, Thing):
            holder.fields[field] = value
        else:
            self.store(holder.target, field, self.cross(value, holder.gateway, holder.end, holder.start))

    def read(self, holder, field):
        if isinstance(holder, Thing):
            return holder.fields.get(field)
        return self.cross(self.read(holder.target, field), holder.gateway, holder.start, holder.end)

    def is_cut(self, reference):
        return any(gateway in self.cut for gateway, start, end in trail(reference))

    def do(self, step):
        self.given.append(self.answer(*step))
        return self.given[-1]

    def answer(self, kind, *parts):
        if kind == "revoke":
            self.cut.add(parts[0])
            return None
        return getattr(self, "do_" + kind)(*parts)

    def do_new(self, region, name):
        self.things.append(Thing(len(self.things), region))
        self.variables[region, name] = self.things[-1]

    def do_number(self, region, name, number):
        self.variables[region, name] = number

    def do_drop(self, region, name):
        self.variables[region, name] = None

    def do_enter(self, region, name, gateway, start):
        if gateway in self.cut:
            return "cut"
        self.variables[region, name] = self.cross(self.variables[start, "root"], gateway, start, region)
        return None

    def do_put(self, region, name, field, source):
        holder = self.variables.get((region, name))
        if not is_reference(holder):
            return "no object"
        if self.is_cut(holder):
            return "cut"
        self.store(holder, field, self.variables.get((region, source)))
        return None

    def do_get(self, region, name, field, goal):
        holder = self.variables.get((region, name))
        if not is_reference(holder):
            return "no object"
        if self.is_cut(holder):
            return "cut"
        value = self.read(holder, field)
        self.variables[region, goal] = value
        return "none" if value is None else "object" if is_reference(value) else value

    def do_same(self, region, name, other):
        one, two = self.variables.get((region, name)), self.variables.get((region, other))
        return one is two if is_reference(one) or is_reference(two) else one == two

    def value(self, region, name):
        value = self.variables.get((region, name))
        return ("object", thing(value).number, trail(value)) if is_reference(value) else value

    def wrappers(self):
        return [wrapper for table in self.tables.values() for wrapper in table]

    def live(self):
        """All live references by their identity."""
        found = {}
        while True:
            values = list(self.variables.values())
            for reference in found.values():
                if isinstance(reference, Thing):
                    values.extend(reference.fields.values())
                elif reference.gateway not in self.cut:
                    values.append(reference.target)
            grown = {id(value): value for value in values if is_reference(value)}
            if len(grown) == len(found):
                return found
            found = grown

    def needed_wrappers(self):
        live = self.live()
        return [wrapper for wrapper in self.wrappers() if id(wrapper) in live and wrapper.gateway not in self.cut]

    def entries(self):
        return tuple(sorted(shown(wrapper) for wrapper in self.wrappers()))

    def needed(self):
        return tuple(sorted(shown(wrapper) for wrapper in self.needed_wrappers()))

    def keep(self, wrappers):
        before = len(self.wrappers())
        self.tables = {name: [wrapper for wrapper in wrappers if wrapper.gateway == name] for name in self.tables}
        return before - len(wrappers)

    def collect(self):
        return self.keep(self.needed_wrappers())

    def forget(self, entry):
        self.keep([wrapper for wrapper in self.wrappers() if shown(wrapper) != entry])

    def length_behind(self, step):
        """The most crossings that a value can have behind a step."""
        if step[0] not in ("put", "get"):
            return 0
        holder = self.variables.get(step[1:3])
        if not is_reference(holder):
            return 0
        value = self.variables.get((step[1], step[4])) if step[0] == "put" else thing(holder).fields.get(step[3])
        return len(trail(holder)) + (len(trail(value)) if is_reference(value) else 0)


def drawn_name(chance, slow, region):
    """A variable to look at; those that came far are the more likely ones."""
    weights = []
    for name in NAMES + ("root",):
        value = slow.variables.get((region, name))
        weights.append(1 + 3 * len(trail(value)) if is_reference(value) else 0.2 if value is None else 2)
    return chance.choices(NAMES + ("root",), weights=weights)[0]


def drawn_goal(chance, slow, region):
    """A variable to assign; those that came far are the less likely ones."""
    values = [slow.variables.get((region, name)) for name in NAMES]
    weights = [1 / (1 + len(trail(value))) if is_reference(value) else 2 for value in values]
    return chance.choices(NAMES, weights=weights)[0]


def drawn_field(chance, slow, region, holder):
    """A field to read, most often one that was assigned."""
    reference = slow.variables.get((region, holder))
    known = thing(reference).fields if is_reference(reference) else {}
    return chance.choices(FIELDS, weights=[1 if known.get(field) is None else 8 for field in FIELDS])[0]


def drawn_parts(chance, slow, kind, region):
    goal = drawn_goal(chance, slow, region)
    if kind in ("new", "drop"):
        return (region, goal)
    if kind == "number":
        return (region, goal, chance.choice((0, 1, -1, 7, 10 ** 59, 10 ** 59 + 1)))
    if kind == "put":
        return (region, drawn_name(chance, slow, region), chance.choice(FIELDS), drawn_name(chance, slow, region))
    if kind == "get":
        holder = drawn_name(chance, slow, region)
        return (region, holder, drawn_field(chance, slow, region, holder), goal)
    if kind == "same":
        return (region, drawn_name(chance, slow, region), drawn_name(chance, slow, region))
    gateways = [gateway for gateway in slow.world[1] if region in gateway[1]]
    if kind == "enter" and gateways:
        gateway = chance.choice(gateways)
        return (region, goal, gateway[0], chance.choice([end for end in gateway[1] if end != region]))
    if kind == "revoke" and wraps(slow.world):
        return (chance.choice(wraps(slow.world)),)
    return None


def drawn_step(chance, slow, revokes=0, longest=24):
    """A step that leaves trails at this length at most; revokes says how often one is drawn in 200 steps."""
    kinds = ("new", "number", "drop", "enter", "put", "get", "same", "revoke")
    while True:
        kind = chance.choices(kinds, weights=(7, 7, 4, 28, 54, 66, 34, revokes))[0]
        parts = drawn_parts(chance, slow, kind, chance.choice(slow.world[0]))
        if parts is not None and slow.length_behind((kind, *parts)) <= longest:
            return (kind, *parts)


def drawn_program(chance, world, count, revokes=0, longest=24):
    slow = SlowMachine(world)
    program = []
    for _ in range(count):
        program.append(drawn_step(chance, slow, revokes, longest))
        slow.do(program[-1])
    return tuple(program)


def named_worlds():
    return [LONE, LINE, RING, HUB, TWIN, NAMESAKES, APART, ALIKE, WIDE, TREE, ring_world(2, ("wrap",)),
            ring_world(2, ("wrap", "open")), ring_world(3, ("wrap", "wrap", "open")), ring_world(4, ("wrap",)),
            ring_world(5, ("wrap", "open"))]


def machine_worlds():
    """Worlds of few regions, so that the steps of a drawn program meet."""
    drawn = [world for world in random_worlds(40, 40, 4, 5, 4) if wraps(world)]
    return list(dict.fromkeys(named_worlds() + drawn))


def tree_world(chance):
    """A world without cycles: each gateway joins regions of different pieces."""
    regions = tuple(string.ascii_lowercase[:chance.randint(2, 7)])
    pieces = [[region] for region in regions]
    gateways = []
    while len(pieces) > 1:
        joined = chance.sample(pieces, chance.randint(2, min(3, len(pieces))))
        ends = tuple(sorted(chance.choice(piece) for piece in joined))
        gateways.append(("g" + regions[len(gateways)], ends, chance.choice(("wrap", "wrap", "open"))))
        pieces = [piece for piece in pieces if piece not in joined] + [sum(joined, [])]
    return (regions, tuple(gateways))


def quiet_worlds():
    """Worlds with wrapping gateways, none of which is noticed."""
    drawn = random_worlds(41, 200, 5, 4, 3) + [tree_world(chance) for chance in chances(9, 30)]
    found = []
    for world in fixed_worlds() + named_worlds() + drawn:
        loud = noticed(world)
        silent = with_open(world, tuple(name for name, ends, kind in world[1] if kind == "open" or name in loud))
        if wraps(silent):
            found.append(silent)
    return list(dict.fromkeys(found))


def chances(seed, count):
    return [random.Random(seed * 1000 + at) for at in range(count)]
