"""A table read from its text, or the text's first fault."""

from keptgroupings.faults import ASKED_TWICE, COLUMN_TWICE, NO_COLUMN, NOT_ALLOWED
from keptgroupings.faults import OUT_OF_BOUNDS, TOO_LONG, TOO_MANY, Fault
from keptgroupings.parts import Line, Question, Table
from keptgroupings.tokens import tokens_of

LONGEST_TEXT = 4096
MOST_COLUMNS = 4
MOST_ROWS = 16
MOST_QUESTIONS = 8
GREATEST_VALUE = 9
GREATEST_AMOUNT = 1000
MOST_TIMES = 99


class Cursor:
    """Walks through tokens, the last of which is the text's end."""

    def __init__(self, tokens):
        self.tokens = tokens
        self.position = 0

    def sees(self, kind):
        return self.tokens[self.position].kind == kind

    def take(self, kind):
        """The next token, which has to be of this kind."""
        token = self.tokens[self.position]
        if token.kind != kind:
            raise Fault(NOT_ALLOWED, token.place)
        self.position += 1
        return token

    def skips(self, kind):
        """Whether the next token is of this kind; if so it is gone past."""
        if not self.sees(kind):
            return False
        self.position += 1
        return True


def table_of(text):
    """The table that the text tells; Fault if it isn't right."""
    if len(text) > LONGEST_TEXT:
        raise Fault(TOO_LONG, LONGEST_TEXT)
    cursor = Cursor(tokens_of(text))
    table = Table(read_columns(cursor))
    while not cursor.sees("end"):
        if cursor.sees("row"):
            table.rows.append(read_row(cursor, table))
        else:
            table.questions.append(read_question(cursor, table))
    return table


def read_columns(cursor):
    cursor.take("columns")
    names = [read_column(cursor, [])]
    while cursor.skips(","):
        names.append(read_column(cursor, names))
    cursor.take(";")
    return names


def read_column(cursor, names):
    token = cursor.take("name")
    if len(names) == MOST_COLUMNS:
        raise Fault(TOO_MANY, token.place)
    if token.said in names:
        raise Fault(COLUMN_TWICE, token.place)
    return token.said


def read_row(cursor, table):
    word = cursor.take("row")
    if len(table.rows) == MOST_ROWS:
        raise Fault(TOO_MANY, word.place)
    numbers = [read_number(cursor, 0, GREATEST_VALUE)]
    while len(numbers) < len(table.columns):
        cursor.take(",")
        numbers.append(read_number(cursor, 0, GREATEST_VALUE))
    cursor.take(":")
    amount = read_amount(cursor)
    cursor.take(";")
    return Line(tuple(numbers), amount, 1)


def read_amount(cursor):
    if cursor.skips("-"):
        return -read_number(cursor, 0, GREATEST_AMOUNT)
    return read_number(cursor, 0, GREATEST_AMOUNT)


def read_number(cursor, least, most):
    token = cursor.take("number")
    if token.said < least or token.said > most:
        raise Fault(OUT_OF_BOUNDS, token.place)
    return token.said


def read_question(cursor, table):
    word = cursor.take("ask")
    if len(table.questions) == MOST_QUESTIONS:
        raise Fault(TOO_MANY, word.place)
    grouping = 0
    if cursor.sees("name"):
        grouping = read_asked(cursor, table.columns, grouping)
        while cursor.skips(","):
            grouping = read_asked(cursor, table.columns, grouping)
    times = 1
    if cursor.skips("times"):
        times = read_number(cursor, 1, MOST_TIMES)
    cursor.take(";")
    return Question(grouping, times)


def read_asked(cursor, columns, grouping):
    """The grouping with the next name's column added."""
    token = cursor.take("name")
    if token.said not in columns:
        raise Fault(NO_COLUMN, token.place)
    bit = 1 << columns.index(token.said)
    if grouping & bit:
        raise Fault(ASKED_TWICE, token.place)
    return grouping | bit
