"""Texts of worlds, programs, answers and trails."""


def show_words(words):
    """Return words in one line, a dash if there are none."""
    return " ".join(words) if words else "-"


def show_world(world):
    """Return the text of a world."""
    regions, gateways = world
    lines = [show_words(("regions",) + regions)]
    lines.extend([show_words((kind, name) + those) for name, those, kind in gateways])
    return "\n".join(lines)


def show_step(step):
    """Return the text of a step."""
    return show_words([str(part) for part in step])


def show_program(program):
    """Return the text of a program."""
    return "\n".join([show_step(step) for step in program]) if program else "-"


def show_answer(answer):
    """Return the text of an answer."""
    if answer is None:
        return "-"
    if answer is True:
        return "yes"
    if answer is False:
        return "no"
    return str(answer).replace(" ", "-")


def show_trail(trail):
    """Return the text of a trail."""
    return show_words([".".join(crossing) for crossing in trail])
