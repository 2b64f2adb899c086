"""A desk: a session and the questions about its world, told and answered in lines."""

from wraptrails.cuts import least_cut
from wraptrails.cycles import noticed, quiet
from wraptrails.detectors import detector, steps_needed
from wraptrails.errors import BadLine
from wraptrails.programs import is_step
from wraptrails.reading import read_world, step_of
from wraptrails.sessions import Session
from wraptrails.showing import show_answer, show_program, show_trail, show_words, show_world
from wraptrails.worlds import is_name


def in_one_line(text):
    """Return a text with another sign between its lines."""
    return text.replace("\n", "/")


def told_detector(world):
    """Return a detector's text in one line, a dash if there is none."""
    return "-" if steps_needed(world) is None else in_one_line(show_program(detector(world)))


def told_cut(world, one, other):
    """Return the gateways of a least cut between two regions, or None if a word is no region."""
    if one not in world[0] or other not in world[0]:
        return None
    result = least_cut(world, one, other)
    return "open" if result[0] == "open" else show_words(result[1])


def told_of_world(world, words):
    """Return the answer to a question about the world, or None if these words ask nothing about it."""
    match words:
        case ["quiet"]:
            return show_words(quiet(world))
        case ["noticed"]:
            return show_words(noticed(world))
        case ["steps"]:
            return show_answer(steps_needed(world))
        case ["detect"]:
            return told_detector(world)
        case ["cut", one, other]:
            return told_cut(world, one, other)
        case ["world"]:
            return in_one_line(show_world(world))
    return None


def told_value(machine, region, name):
    """Return the value of a variable, or None if these words are no region and no name."""
    if region not in machine.own_world[0] or not is_name(name):
        return None
    value = machine.value(region, name)
    if isinstance(value, tuple):
        return f"object {value[1]} {show_trail(value[2])}"
    return show_answer(value)


def told_of_session(session, words):
    """Do what the words tell the session, and return the answer, or None if they tell it nothing."""
    match words:
        case ["back"]:
            session.back()
            return "done"
        case ["collect"]:
            return str(session.collect())
        case ["count"]:
            return str(len(session))
        case ["entries"]:
            machine = session.machine()
            return f"{len(machine.entries())} {len(machine.needed())}"
        case ["value", region, name]:
            return told_value(session.machine(), region, name)
    return None


class Desk:
    """A session that is told lines."""

    def __init__(self, text):
        self.own_world = read_world(text)
        self.own_session = Session(self.own_world)

    def say(self, line):
        """Do what a line, which may be any value, tells, and return the answer's text."""
        if not isinstance(line, str):
            raise BadLine(line)
        step = step_of(line)
        if is_step(self.own_world, step):
            return show_answer(self.own_session.do(step))
        words = line.split(" ")
        answer = told_of_world(self.own_world, words)
        if answer is None:
            answer = told_of_session(self.own_session, words)
        if answer is None:
            raise BadLine(line)
        return answer
