"""Programs that notice that a gateway has forgotten a wrapper."""

from wraptrails.cycles import shortest_path
from wraptrails.errors import NotNeeded
from wraptrails.programs import is_program
from wraptrails.worlds import LETTERS, wrapping_names


class Carrier:
    """Writes steps that carry one reference, unchanged, from variable to variable.

    `region` and `name` say which variable has it. `held` and `link` are names that the machine does not use: so no
    step spoils a variable or a field that a later step reads.
    """

    def __init__(self, world, region, name, spare):
        self.own_world = world
        self.region = region
        self.name = name
        self.held = spare[0]
        self.link = spare[1]
        self.written = []

    def arrive(self, region, holder, field):
        """Read the reference from a field into a variable of the region."""
        self.written.append(("get", region, holder, field, self.held))
        self.region = region
        self.name = self.held

    def move(self, region):
        """Carry the reference to another region of the zone: open gateways pass it unchanged."""
        path = shortest_path(self.own_world, self.region, region, wrapping_names(self.own_world))
        for gateway, behind in zip(path[1::2], path[2::2]):
            self.written.append(("put", self.region, "root", self.held, self.name))
            self.written.append(("enter", behind, self.link, gateway, self.region))
            self.arrive(behind, self.link, self.held)

    def store_target(self, crossing):
        """Send the wrapper home through its own gateway, so that the root there gets its target."""
        gateway, start, end = crossing
        self.move(end)
        self.written.append(("enter", end, self.link, gateway, start))
        self.written.append(("put", end, self.link, self.held, self.name))

    def follow(self, reference, field):
        """Go on from this reference to its target, or to what its field holds."""
        if reference.target is None:
            self.arrive(self.region, self.name, field)
        else:
            self.store_target(reference.crossing)
            self.arrive(reference.crossing[1], "root", self.held)

    def compare(self, crossing):
        """Let the target cross the gateway anew, and compare the wrapper with the one that comes out."""
        self.store_target(crossing)
        end = crossing[2]
        self.written.append(("get", end, self.link, self.held, self.link))
        self.written.append(("same", end, self.name, self.link))


def name_at(index):
    """Return the NAME with this index, the shortest ones first."""
    name = ""
    rest = index
    while rest >= 0:
        name = LETTERS[rest % len(LETTERS)] + name
        rest = rest // len(LETTERS) - 1
    return name


def spare_names(machine):
    """Return two names that no variable and no field of the machine has."""
    used = {}
    for own in list(machine.variables.values()) + machine.fields:
        used.update(own)
    # Among so many names, at least two are not used.
    names = [name_at(index) for index in range(len(used) + 2)]
    return [name for name in names if name not in used][:2]


def chain_to(origins, reference):
    """Return how the reference is reached, from a variable on."""
    chain = [origins[reference]]
    while not isinstance(chain[-1][0], str):
        chain.append(origins[chain[-1][0]])
    return chain[::-1]


def continuation(machine, entry):
    """Return a program that notices if this entry, which may be any value, is forgotten."""
    wrapper = machine.needed_table().get(machine.key_of(entry))
    if wrapper is None:
        raise NotNeeded(entry)
    chain = chain_to(machine.live(), wrapper)
    region, name = chain[0]
    carrier = Carrier(machine.own_world, region, name, spare_names(machine))
    for reference, field in chain[1:]:
        carrier.follow(reference, field)
    carrier.compare(wrapper.crossing)
    return tuple(carrier.written)


def shows_continuation(machine, entry, value):
    """Tell whether any value is a program that notices if this entry, which may be any value, is forgotten."""
    other = machine.copied()
    other.forget(entry)
    if not is_program(machine.own_world, value):
        return False
    return machine.copied().run(value) != other.run(value)
