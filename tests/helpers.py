"""Calls told by name, their answers one list each, and texts with their faults marked."""

from keptgroupings.tables import answers

NUMBER_OF_CALL = {"load": 0, "shown": 1, "group": 2, "roll": 3, "sizes": 4}

EXAMPLE = (
    "columns city, kind ; row 0, 0 : 5 ; row 0, 1 : 2 ; row 1, 0 : 4 ; row 1, 0 : -1 ; "
    "row 0, 0 : 1 ; ask city times 3 ; ask kind ; ask city, kind times 2 ; ask ;"
)


def as_bytes(text):
    """A text's bytes; a list of bytes stays as it is."""
    return list(text.encode("latin-1")) if isinstance(text, str) else list(text)


def flat(calls):
    """The one list of numbers for calls like ("load", text), ("roll", 3, 1), ("sizes",)."""
    numbers = []
    for name, *rest in calls:
        numbers.append(NUMBER_OF_CALL[name])
        if name == "load":
            text = as_bytes(rest[0])
            numbers.append(len(text))
            numbers.extend(text)
        else:
            numbers.extend(rest)
    return numbers


def split(given):
    """What answers() gives back, as one list for each call."""
    parted = []
    at = 0
    while at < len(given):
        behind = at + 1 + given[at]
        if behind > len(given):
            raise AssertionError("an answer is shorter than it says")
        parted.append(given[at + 1:behind])
        at = behind
    return parted


def asked(*calls):
    """The answers to these calls on one object, one list for each."""
    parted = split(answers(flat(calls)))
    if len(parted) != len(calls):
        raise AssertionError(f"{len(calls)} calls, but {len(parted)} answers")
    return parted


def loaded(text):
    return asked(("load", text))[0]


def form_of(text):
    """The one form of a right text, as a text."""
    told = asked(("load", text), ("shown",))
    if told[0][0] != 1:
        raise AssertionError(f"not loaded: {told[0]}")
    count, form = told[1][0], told[1][1:]
    if count != len(form):
        raise AssertionError(f"{count} bytes told, but {len(form)} given")
    return bytes(form).decode("ascii")


def marked(text):
    """The text without its one mark ^, and the mark's place."""
    place = text.index("^")
    return text[:place] + text[place + 1:], place


def table_text(width, rows, questions=()):
    """A table with columns a, b, c, d, rows like ((0, 1), 5), questions as told."""
    parts = ["columns " + ", ".join("abcd"[:width]) + " ;"]
    for numbers, amount in rows:
        parts.append("row " + ", ".join(str(number) for number in numbers) + f" : {amount} ;")
    parts.extend(questions)
    return "\n".join(parts)
