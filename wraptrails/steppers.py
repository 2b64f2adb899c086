"""What both machines have in common: variables, fields, answers, and what each step does to them."""

from wraptrails.errors import BadStep
from wraptrails.programs import is_step
from wraptrails.worlds import wrapping_names


def is_reference(value):
    """Tell whether a value of a machine is a reference, whatever the machine's references are."""
    return value is not None and not isinstance(value, int)


def content(value):
    """Return the answer that tells what was read."""
    if value is None:
        return "none"
    return "object" if is_reference(value) else value


class Stepper:
    """A machine without references.

    A class below it says what they are, by four methods: `unwrapped(number)` is a reference to an object that was
    never wrapped, `number_of(reference)` is the number of its object, `trail_of(reference)` is its trail, and
    `passed(reference, gateway, start, end)` is what it becomes when it crosses a wrapping gateway.
    """

    def __init__(self, world):
        self.own_world = world
        self.variables = {region: {} for region in world[0]}
        self.fields = []
        self.revoked_names = {}
        self.given = []
        for region in world[0]:
            self.variables[region]["root"] = self.made()

    def made(self):
        """Make an object and return a reference to it."""
        self.fields.append({})
        return self.unwrapped(len(self.fields) - 1)

    def variable(self, region, name):
        """Return the value of a variable."""
        return self.variables[region].get(name)

    def shown(self, region, name):
        """Return the value of a variable as a caller sees it."""
        value = self.variable(region, name)
        if is_reference(value):
            return ("object", self.number_of(value), self.trail_of(value))
        return value

    def sent(self, value, gateway, start, end):
        """Return what any value becomes when it crosses a wrapping gateway."""
        return self.passed(value, gateway, start, end) if is_reference(value) else value

    def refusal(self, value):
        """Return the answer of an access to what has no fields or cannot be reached, otherwise None."""
        if not is_reference(value):
            return "no object"
        if any([gateway in self.revoked_names for gateway, start, end in self.trail_of(value)]):
            return "cut"
        return None

    def enter(self, region, name, gateway, start):
        """Let a variable refer to the root of the region `start`, and return the answer."""
        if gateway in self.revoked_names:
            return "cut"
        root = self.variable(start, "root")
        if gateway in wrapping_names(self.own_world):
            root = self.passed(root, gateway, start, region)
        self.variables[region][name] = root
        return None

    def put(self, region, name, field, source):
        """Store the value of `source` in a field of what `name` refers to, and return the answer."""
        holder = self.variable(region, name)
        answer = self.refusal(holder)
        if answer is not None:
            return answer
        value = self.variable(region, source)
        along = self.trail_of(holder)
        for gateway, start, end in reversed(along):
            value = self.sent(value, gateway, end, start)
        self.fields[self.number_of(holder)][field] = value
        return None

    def fetch(self, region, name, field, goal):
        """Read a field of what `name` refers to into `goal`, and return the answer."""
        holder = self.variable(region, name)
        answer = self.refusal(holder)
        if answer is not None:
            return answer
        value = self.fields[self.number_of(holder)].get(field)
        along = self.trail_of(holder)
        for gateway, start, end in along:
            value = self.sent(value, gateway, start, end)
        self.variables[region][goal] = value
        return content(value)

    def effect(self, step):
        """Perform a step of the world and return its answer."""
        match step:
            case ("new", region, name):
                self.variables[region][name] = self.made()
            case ("number", region, name, number):
                self.variables[region][name] = number
            case ("drop", region, name):
                self.variables[region][name] = None
            case ("enter", region, name, gateway, start):
                return self.enter(region, name, gateway, start)
            case ("put", region, name, field, source):
                return self.put(region, name, field, source)
            case ("get", region, name, field, goal):
                return self.fetch(region, name, field, goal)
            case ("same", region, name, other):
                return self.variable(region, name) == self.variable(region, other)
            case ("revoke", gateway):
                self.revoked_names[gateway] = True
        return None

    def perform(self, step):
        """Perform a step, which may be any value, and return its answer."""
        if not is_step(self.own_world, step):
            raise BadStep(step)
        answer = self.effect(step)
        self.given.append(answer)
        return answer

    def perform_all(self, program):
        """Perform all steps of a program, which may be any value, or none of them; return the answers."""
        if not isinstance(program, tuple):
            raise BadStep(program)
        for step in program:
            if not is_step(self.own_world, step):
                raise BadStep(step)
        return tuple([self.perform(step) for step in program])
