"""The lines of groupings' answers, from the table or from another answer."""

from keptgroupings.parts import Line


def how_many_groupings(table):
    return 1 << len(table.columns)


def is_grouping(table, grouping):
    return 0 <= grouping < how_many_groupings(table)


def can_be_worked_out(grouping, source):
    """Whether the source has all columns of the grouping."""
    return (grouping & source) == grouping


def columns_of(grouping, width):
    """The numbers of the grouping's columns, in order, if the table has so many columns."""
    return [column for column in range(width) if (grouping >> column) & 1 == 1]


def lines_from_table(table, grouping):
    return merged(table.rows, columns_of(grouping, len(table.columns)))


def lines_from_answer(table, lines, source, grouping):
    """The grouping's lines, worked out from those of the source's answer."""
    there = columns_of(source, len(table.columns))
    wanted = columns_of(grouping, len(table.columns))
    return merged(lines, [there.index(column) for column in wanted])


def merged(lines, positions):
    """One line for all lines that are alike in these positions of their numbers, in order."""
    groups = {}
    for line in lines:
        numbers = tuple([line.numbers[position] for position in positions])
        if numbers not in groups:
            groups[numbers] = Line(numbers, 0, 0)
        group = groups[numbers]
        group.amount += line.amount
        group.count += line.count
    return [groups[numbers] for numbers in sorted(groups)]


def sizes_of_all(table):
    return [len(lines_from_table(table, grouping)) for grouping in range(how_many_groupings(table))]
