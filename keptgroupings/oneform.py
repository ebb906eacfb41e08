"""The one form of a table: the bytes by which every equal table is told."""

from keptgroupings.groupings import columns_of
from keptgroupings.tokens import bytes_of


def one_form(table):
    form = columns_line(table.columns)
    for row in table.rows:
        form.extend(row_line(row))
    for question in table.questions:
        form.extend(question_line(question, table.columns))
    return form


def columns_line(names):
    return bytes_of("columns ") + listed(names) + bytes_of(" ;\n")


def row_line(row):
    numbers = ", ".join([str(number) for number in row.numbers])
    amount = row.amount
    return bytes_of(f"row {numbers} : {amount} ;\n")


def question_line(question, names):
    line = bytes_of("ask ")
    times = question.times
    asked = [names[column] for column in columns_of(question.grouping, len(names))]
    if asked:
        line.extend(listed(asked) + bytes_of(" "))
    if times != 1:
        line.extend(bytes_of(f"times {times} "))
    return line + bytes_of(";\n")


def listed(names):
    """The names, a comma and a blank between any two."""
    form = []
    for name in names:
        if form:
            form.extend(bytes_of(", "))
        form.extend(name)
    return form
