"""Calls told by name, their answers one list each, texts with their faults marked, tables and their plain lines."""

from itertools import product

from keptgroupings.tables import answers

NUMBER_OF_CALL = {"load": 0, "shown": 1, "group": 2, "roll": 3, "sizes": 4,
                  "keep": 5, "cost": 6, "answer": 7, "total": 8, "gain": 9}
GREAT = 10 ** 18

EXAMPLE = (
    "columns city, kind ; row 0, 0 : 5 ; row 0, 1 : 2 ; row 1, 0 : 4 ; row 1, 0 : -1 ; "
    "row 0, 0 : 1 ; ask city times 3 ; ask kind ; ask city, kind times 2 ; ask ;"
)

# Sizes: 1 without columns, 3 by the first one, 2 by the second one, 4 by both.
FIVE_ROWS = [((0, 0), 1), ((1, 0), 2), ((1, 1), 4), ((2, 1), 8), ((2, 1), 16)]


def as_bytes(text):
    """A text's bytes; a list of numbers stays as it is."""
    return list(text.encode("latin-1")) if isinstance(text, str) else list(text)


def flat(calls):
    """The one list of numbers for calls like ("load", text), ("keep", [3, 0]), ("roll", 3, 1), ("sizes",)."""
    numbers = []
    for name, *rest in calls:
        numbers.append(NUMBER_OF_CALL[name])
        if name in ("load", "keep"):
            row = as_bytes(rest[0])
            numbers.append(len(row))
            numbers.extend(row)
        else:
            numbers.extend(rest)
    return numbers


def split(given):
    """What answers() gives back, as one list for each call."""
    parted = []
    at = 0
    while at < len(given):
        behind = at + 1 + given[at]
        if behind > len(given):
            raise AssertionError("an answer is shorter than it says")
        parted.append(given[at + 1:behind])
        at = behind
    return parted


def asked(*calls):
    """The answers to these calls on one object, one list for each."""
    parted = split(answers(flat(calls)))
    if len(parted) != len(calls):
        raise AssertionError(f"{len(calls)} calls, but {len(parted)} answers")
    return parted


def loaded(text):
    return asked(("load", text))[0]


def form_of(text):
    """The one form of a right text, as a text."""
    told = asked(("load", text), ("shown",))
    if told[0][0] != 1:
        raise AssertionError(f"not loaded: {told[0]}")
    count, form = told[1][0], told[1][1:]
    if count != len(form):
        raise AssertionError(f"{count} bytes told, but {len(form)} given")
    return bytes(form).decode("ascii")


def marked(text):
    """The text without its one mark ^, and the mark's place."""
    place = text.index("^")
    return text[:place] + text[place + 1:], place


def question_text(grouping, times=1):
    """A question by the columns a, b, c, d that the grouping has."""
    names = ", ".join(name for place, name in enumerate("abcd") if grouping // 2 ** place % 2)
    return f"ask {names} times {times} ;"


def table_text(width, rows, questions=()):
    """A table with columns a, b, c, d, rows like ((0, 1), 5), questions as told."""
    parts = ["columns " + ", ".join("abcd"[:width]) + " ;"]
    for numbers, amount in rows:
        parts.append("row " + ", ".join(str(number) for number in numbers) + f" : {amount} ;")
    parts.extend(questions)
    return "\n".join(parts)


def scattered(width, count, spread, seed):
    """Rows that look without order but are the same each time."""
    rows = []
    state = seed
    for number in range(count):
        values = []
        for place in range(width):
            state = (state * 1103515245 + 12345) % 2147483648
            values.append(state // 65536 % spread)
        state = (state * 1103515245 + 12345) % 2147483648
        rows.append((tuple(values), state // 65536 % 2001 - 1000))
    return rows


TABLES = [
    (1, []), (4, []),
    (1, [((7,), -3)]),
    (1, [((9,), 1), ((0,), 2), ((9,), 3), ((5,), -1000), ((0,), -2)]),
    (2, [((0, 0), 5), ((0, 1), 2), ((1, 0), 4), ((1, 0), -1), ((0, 0), 1)]),
    (2, [((1, 0), 1), ((0, 9), 2)]),
    (3, [((1, 2, 3), 4)] * 16),
    (3, [((9, 0, 9), 1000), ((0, 9, 0), -1000), ((9, 9, 9), 0), ((0, 0, 0), 0), ((9, 0, 0), -1)]),
    (4, [((n // 8 % 2, n // 4 % 2, n // 2 % 2, n % 2), n - 8) for n in range(15, -1, -1)]),
    (1, scattered(1, 16, 4, 1)), (1, scattered(1, 16, 10, 2)),
    (2, scattered(2, 16, 2, 3)), (2, scattered(2, 11, 10, 4)),
    (3, scattered(3, 16, 2, 5)), (3, scattered(3, 13, 3, 6)),
    (4, scattered(4, 16, 2, 7)), (4, scattered(4, 16, 3, 8)), (4, scattered(4, 16, 10, 9)),
]


def plain_lines(width, rows, grouping):
    """The lines, found by looking through all numbers that there could be, in order."""
    columns = [place for place in range(width) if grouping // 2 ** place % 2]
    lines = []
    present = {tuple(values[place] for place in columns) for values, amount in rows}
    for numbers in product(range(10), repeat=len(columns)):
        if numbers in present:
            amounts = [amount for values, amount in rows if tuple(values[place] for place in columns) == numbers]
            lines.append(list(numbers) + [sum(amounts), len(amounts)])
    return lines


def as_answer(lines):
    return [len(lines)] + [number for line in lines for number in line]


def asked_of(width, rows, *calls):
    """The answers to the calls on this table, asked sixty at the most together."""
    told = []
    for start in range(0, len(calls), 59):
        part = asked(("load", table_text(width, rows)), *calls[start:start + 59])
        told.extend(part[1:])
    return told
