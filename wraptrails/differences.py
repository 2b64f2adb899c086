"""Where the answers of a program show that gateways wrap."""

from wraptrails.errors import HasRevoke
from wraptrails.machines import answers
from wraptrails.programs import has_revoke
from wraptrails.trailmachine import TrailMachine
from wraptrails.worlds import plain


def differences(world, program):
    """Return the indexes of all steps whose answers in the world and in the plain world differ."""
    if has_revoke(program):
        raise HasRevoke()
    here = answers(world, program)
    there = answers(plain(world), program)
    return tuple([at for at in range(len(program)) if here[at] != there[at]])


def to_one_object(one, other):
    """Tell whether two values, as a machine shows them, are references to one object."""
    return isinstance(one, tuple) and isinstance(other, tuple) and one[1] == other[1]


def compared(world, program):
    """Return (index, object, trail, trail) for each `same` step that compares two references to one object."""
    if has_revoke(program):
        raise HasRevoke()
    machine = TrailMachine(world)
    found = []
    for at, step in enumerate(program):
        machine.do(step)
        if step[0] == "same":
            one = machine.value(step[1], step[2])
            other = machine.value(step[1], step[3])
            if to_one_object(one, other):
                found.append((at, one[1], one[2], other[2]))
    return tuple(found)
