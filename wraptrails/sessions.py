"""Sessions: machines whose calls can be taken back."""

from wraptrails.errors import BadMark, NothingDone
from wraptrails.machines import Machine


class Session:
    """A machine, and what it was before each call that can be taken back."""

    def __init__(self, world):
        # Each call makes a new machine and a new list: so a trial only needs to keep these two.
        self.held = Machine(world)
        self.past = []

    def go_on(self, after, steps):
        """Hold the machine after a call, which performed these steps."""
        self.past = self.past + [(self.held, steps)]
        self.held = after

    def restore(self, count):
        """Take back all calls but this many of them."""
        self.held = self.past[count][0]
        self.past = self.past[:count]

    def do(self, step):
        """Perform a step and return its answer."""
        after = self.held.copied()
        answer = after.do(step)
        self.go_on(after, (step,))
        return answer

    def collect(self):
        """Remove all entries that are not needed, and return how many."""
        after = self.held.copied()
        removed = after.collect()
        self.go_on(after, ())
        return removed

    def __len__(self):
        """Return the number of calls that can be taken back."""
        return len(self.past)

    def back(self):
        """Take back the last call of do or collect."""
        if not self.past:
            raise NothingDone()
        self.restore(len(self.past) - 1)

    def back_to(self, mark):
        """Take back calls until this number of them, which may be any value, is left."""
        if not isinstance(mark, int) or isinstance(mark, bool) or not 0 <= mark <= len(self.past):
            raise BadMark(mark)
        if mark < len(self.past):
            self.restore(mark)

    def trial(self, look):
        """Call look with this session and return its result; then undo whatever it did."""
        held = self.held
        past = self.past
        try:
            return look(self)
        finally:
            self.held, self.past = held, past

    def machine(self):
        """Return a copy of the machine."""
        return self.held.copied()

    def program(self):
        """Return the steps that were done and not taken back."""
        return tuple([step for before, steps in self.past for step in steps])
