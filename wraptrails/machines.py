"""The machine whose gateways wrap references and remember their wrappers."""

from wraptrails.errors import NoEntry
from wraptrails.steppers import Stepper, is_reference


class Reference:
    """An object, or a wrapper that a gateway made; it never changes.

    Two references are equal only if they are the same one. An object has neither a target nor a crossing.
    """

    def __init__(self, number, target, crossing):
        self.number = number
        self.target = target
        self.crossing = crossing


def chain_trail(reference):
    """Return the trail of a reference."""
    # A loop, since a chain of wrappers may be longer than calls can be nested.
    crossings = []
    rest = reference
    while rest.target is not None:
        crossings.append(rest.crossing)
        rest = rest.target
    return tuple(crossings[::-1])


def shown_entry(wrapper):
    """Return the entry of a wrapper as a caller sees it."""
    gateway, start, end = wrapper.crossing
    return (gateway, start, wrapper.number, chain_trail(wrapper.target), end)


class Machine(Stepper):
    """A machine of a world."""

    def __init__(self, world):
        Stepper.__init__(self, world)
        # The tables of all gateways: (crossing, target) leads to the wrapper.
        self.table = {}

    def unwrapped(self, number):
        """Return a reference to a new object."""
        return Reference(number, None, None)

    def number_of(self, reference):
        """Return the number of the object to which a reference leads."""
        return reference.number

    def trail_of(self, reference):
        """Return the trail of a reference."""
        return chain_trail(reference)

    def passed(self, reference, gateway, start, end):
        """Return what a reference becomes when it crosses a wrapping gateway."""
        if reference.target is None or reference.crossing[0] != gateway:
            return self.wrapper_of(reference, (gateway, start, end))
        home = reference.crossing[1]
        if home == end:
            return reference.target
        return self.wrapper_of(reference.target, (gateway, home, end))

    def wrapper_of(self, target, crossing):
        """Return the wrapper that the gateway remembers, or a new one if it remembers none."""
        key = (crossing, target)
        if key not in self.table:
            self.table[key] = Reference(target.number, target, crossing)
        return self.table[key]

    def reached(self, reference):
        """Return (value, reference, field) for all that is live because this reference is; a target has no field."""
        if reference.target is None:
            return [(value, reference, field) for field, value in self.fields[reference.number].items()]
        return [] if reference.crossing[0] in self.revoked_names else [(reference.target, reference, None)]

    def live(self):
        """Return how each live reference is reached: by (region, variable), (object, field) or (wrapper, None)."""
        found = {}
        waiting = [(value, region, name) for region, own in self.variables.items() for name, value in own.items()]
        while waiting:
            behind = []
            for value, holder, name in waiting:
                if is_reference(value) and value not in found:
                    found[value] = (holder, name)
                    behind.extend(self.reached(value))
            waiting = behind
        return found

    def needed_table(self):
        """Return the part of the table that is needed."""
        alive = self.live()
        kept = {}
        for key, wrapper in self.table.items():
            if wrapper in alive and wrapper.crossing[0] not in self.revoked_names:
                kept[key] = wrapper
        return kept

    def key_of(self, entry):
        """Return the key in the table for an entry, which may be any value, or None if there is none."""
        for key, wrapper in self.table.items():
            # Python holds False and True to be equal to 0 and 1, but they are no object's number.
            if shown_entry(wrapper) == entry and not isinstance(entry[2], bool):
                return key
        return None

    def do(self, step):
        """Perform a step and return its answer."""
        return self.perform(step)

    def run(self, program):
        """Perform all steps of a program and return the tuple of their answers."""
        return self.perform_all(program)

    def answers(self):
        """Return the tuple of all answers so far."""
        return tuple(self.given)

    def __len__(self):
        """Return the number of answers so far."""
        return len(self.given)

    def value(self, region, name):
        """Return None, the integer, or ("object", number, trail) for a variable."""
        return self.shown(region, name)

    def object_count(self):
        """Return the number of objects made so far, with the roots."""
        return len(self.fields)

    def revoked(self):
        """Return the revoked gateways, ascending."""
        return tuple(sorted(self.revoked_names))

    def entries(self):
        """Return all entries, ascending."""
        return tuple(sorted({shown_entry(wrapper) for wrapper in self.table.values()}))

    def needed(self):
        """Return the needed entries, ascending."""
        kept = self.needed_table()
        return tuple(sorted({shown_entry(wrapper) for wrapper in kept.values()}))

    def collect(self):
        """Remove all entries that are not needed, and return how many."""
        kept = self.needed_table()
        removed = len(self.table) - len(kept)
        self.table = kept
        return removed

    def forget(self, entry):
        """Remove one entry."""
        key = self.key_of(entry)
        if key is None:
            raise NoEntry(entry)
        del self.table[key]

    def copied(self):
        """Return an independent machine in the same state."""
        other = Machine(self.own_world)
        other.variables = {region: dict(own) for region, own in self.variables.items()}
        other.fields = [dict(own) for own in self.fields]
        other.revoked_names = dict(self.revoked_names)
        other.given = list(self.given)
        # References never change, so both machines may hold the same ones.
        other.table = {key: wrapper for key, wrapper in self.table.items()}
        return other


def answers(world, program):
    """Return the answers of a new machine to the program."""
    return Machine(world).run(program)
