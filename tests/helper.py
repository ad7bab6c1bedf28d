"""Lines of calls written with names and texts, for all the tests."""

from formattexts.scanning import answers

NAMES = ("load", "shown", "format", "print", "scan", "ways", "told", "lengths", "round", "put")
WITH_LIST = ("load", "print", "scan", "ways", "round", "put")


def as_list(told):
    """A text as its bytes; a list of numbers as it is."""
    return list(told.encode("latin-1")) if isinstance(told, str) else list(told)


def line_of(*calls):
    line = []
    for call in calls:
        name = call if isinstance(call, str) else call[0]
        line.append(NAMES.index(name))
        if name in WITH_LIST:
            told = as_list(call[1])
            line += [len(told)] + told
        elif name == "told":
            line.append(call[1])
    return line


def split(answered):
    parts = []
    while answered:
        parts.append(answered[1:1 + answered[0]])
        answered = answered[1 + answered[0]:]
    return parts


def ask(*calls):
    """Each call's answer, of a new object."""
    return split(answers(line_of(*calls)))


def load(source):
    return ask(("load", source))[0]


def shown(*loads):
    """What is shown behind these loads, as a text."""
    answered = ask(*[("load", source) for source in loads], "shown")[-1]
    assert answered[0] == len(answered) - 1
    return bytes(answered[1:]).decode("ascii")


def in_form(row):
    """A format's source, of what stands between its brackets."""
    return "format { " + row + " }"


def format_of(row):
    return ask(("load", in_form(row)), "format")[-1]


def print_of(row, *numbers):
    """The print as a text, or None."""
    answered = ask(("load", in_form(row)), ("print", [len(numbers)] + list(numbers)))[-1]
    if answered == [0]:
        return None
    assert answered[0] == 1 and answered[1] == len(answered) - 2, answered
    return bytes(answered[2:]).decode("ascii")


def scanning_of(row, text):
    """The scanning, or None."""
    answered = ask(("load", in_form(row)), ("scan", text))[-1]
    if answered == [0]:
        return None
    assert answered[0] == 1 and answered[1] == len(answered) - 2, answered
    return answered[2:]


def ways_of(row, text):
    """How many scannings there are, or a refusal."""
    answered = ask(("load", in_form(row)), ("ways", text))[-1]
    assert len(answered) == 1, answered
    return answered[0]


def lengths_of(row):
    return ask(("load", in_form(row)), "lengths")[-1]


def round_of(row, *numbers):
    return ask(("load", in_form(row)), ("round", [len(numbers)] + list(numbers)))[-1]
