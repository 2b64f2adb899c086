"""Reading what is written in texts."""

from wraptrails.errors import BadText
from wraptrails.programs import is_step
from wraptrails.trails import is_trail
from wraptrails.worlds import is_gateways, is_regions

DIGITS = "0123456789"


def lines_of(text):
    """Return the lines of any value that is to be a text."""
    if not isinstance(text, str):
        raise BadText(0)
    return text.split("\n")


def gateway_of(line):
    """Return the parts of a gateway that a line describes, right or wrong, or None if it has too few words."""
    words = line.split(" ")
    if len(words) < 2:
        return None
    return (words[1], tuple(words[2:]), words[0])


def read_world(text):
    """Return the world that any value describes."""
    lines = lines_of(text)
    words = lines[0].split(" ")
    regions = tuple(words[1:])
    if words[0] != "regions" or not is_regions(regions):
        raise BadText(0)
    gateways = ()
    for at, line in enumerate(lines[1:], start=1):
        gateways = gateways + (gateway_of(line),)
        if not is_gateways(regions, gateways):
            raise BadText(at)
    return (regions, gateways)


def is_number(word):
    """Tell whether a word is an integer as it is written in texts."""
    digits = word.removeprefix("-")
    # Not isdigit, which takes the digits of other scripts, too.
    if not digits or not all([sign in DIGITS for sign in digits]):
        return False
    return word == "0" or not digits.startswith("0")


def step_of(line):
    """Return the parts of a step that a line describes, right or wrong."""
    words = line.split(" ")
    if words[0] == "number" and is_number(words[-1]):
        return tuple(words[:-1]) + (int(words[-1]),)
    return tuple(words)


def read_program(world, text):
    """Return the program of the world that any value describes."""
    lines = lines_of(text)
    if lines[0] == "-":
        if len(lines) > 1:
            raise BadText(1)
        return ()
    steps = []
    for at, line in enumerate(lines):
        steps.append(step_of(line))
        if not is_step(world, steps[-1]):
            raise BadText(at)
    return tuple(steps)


def read_trail(world, text):
    """Return the trail of the world that any value describes."""
    lines = lines_of(text)
    words = [] if lines[0] == "-" else lines[0].split(" ")
    trail = tuple([tuple(word.split(".")) for word in words])
    if not is_trail(world, trail):
        raise BadText(0)
    if len(lines) > 1:
        raise BadText(1)
    return trail
