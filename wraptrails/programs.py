"""Programs: the steps that a machine can perform."""

from wraptrails.worlds import gateway_names, is_name, leads, wrapping_names

# The roles of the parts behind the first one; "assigned" is a variable that the step assigns.
PARTS = {
    "new": ("region", "assigned"),
    "number": ("region", "assigned", "integer"),
    "drop": ("region", "assigned"),
    "enter": ("region", "assigned", "gateway", "region"),
    "put": ("region", "name", "name", "name"),
    "get": ("region", "name", "name", "assigned"),
    "same": ("region", "name", "name"),
    "revoke": ("wrapping",),
}


def is_part(world, role, value):
    """Tell whether any value can play this role in a step of the world."""
    if role == "region":
        return value in world[0]
    if role == "gateway":
        return value in gateway_names(world)
    if role == "wrapping":
        return value in wrapping_names(world)
    if role == "integer":
        return isinstance(value, int) and not isinstance(value, bool)
    if role == "assigned":
        return is_name(value) and value != "root"
    return is_name(value)


def is_step(world, value):
    """Tell whether any value is a step of the world."""
    if not isinstance(value, tuple) or not value or not isinstance(value[0], str):
        return False
    roles = PARTS.get(value[0])
    if roles is None or len(value) != len(roles) + 1:
        return False
    if not all([is_part(world, role, part) for role, part in zip(roles, value[1:])]):
        return False
    return value[0] != "enter" or leads(world, value[3], value[4], value[1])


def is_program(world, value):
    """Tell whether any value is a program of the world."""
    return isinstance(value, tuple) and all([is_step(world, step) for step in value])


def has_revoke(program):
    """Tell whether the program has a revoke step."""
    return any([step[0] == "revoke" for step in program])
