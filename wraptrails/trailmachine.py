"""The machine without wrappers: its references are pairs of an object and a trail."""

from wraptrails.steppers import Stepper
from wraptrails.trails import crossed


class TrailMachine(Stepper):
    """A machine of a world. A reference is a pair (number, trail)."""

    def __init__(self, world):
        Stepper.__init__(self, world)

    def unwrapped(self, number):
        """Return a reference to a new object."""
        return (number, ())

    def number_of(self, reference):
        """Return the number of the object to which a reference leads."""
        return reference[0]

    def trail_of(self, reference):
        """Return the trail of a reference."""
        return reference[1]

    def passed(self, reference, gateway, start, end):
        """Return what a reference becomes when it crosses a wrapping gateway."""
        return (reference[0], crossed(reference[1], gateway, start, end))

    def do(self, step):
        """Perform a step and return its answer."""
        return self.perform(step)

    def run(self, program):
        """Perform all steps of a program and return the tuple of their answers."""
        return self.perform_all(program)

    def answers(self):
        """Return the tuple of all answers so far."""
        return tuple(self.given)

    def __len__(self):
        """Return the number of answers so far."""
        return len(self.given)

    def value(self, region, name):
        """Return None, the integer, or ("object", number, trail) for a variable."""
        return self.shown(region, name)

    def object_count(self):
        """Return the number of objects made so far, with the roots."""
        return len(self.fields)

    def revoked(self):
        """Return the revoked gateways, ascending."""
        return tuple(sorted(self.revoked_names))
