"""Kept answers: what questions read with them, and what that costs.

The kept answers are a dict: by grouping, the lines of its answer.
"""

from keptgroupings.groupings import can_be_worked_out, lines_from_answer, lines_from_table

FROM_TABLE = -1


def kept_answers(table, groupings):
    kept = {}
    for grouping in groupings:
        if grouping not in kept:
            kept[grouping] = lines_from_table(table, grouping)
    return kept


def with_one_more(table, kept, grouping):
    """The kept answers with this grouping's among them; kept stays as it is."""
    more = dict(kept)
    more[grouping] = lines_from_table(table, grouping)
    return more


def lines_together(kept):
    return sum([len(lines) for lines in kept.values()])


def source_read(kept, grouping):
    """The kept grouping whose answer is read for this one, FROM_TABLE if there is none."""
    sources = [source for source in kept if can_be_worked_out(grouping, source)]
    return min(sources, key=lambda source: (len(kept[source]), source), default=FROM_TABLE)


def cost_from(table, kept, source):
    """How many lines of the source's answer there are to read, or rows of the table."""
    if source == FROM_TABLE:
        return len(table.rows)
    return len(kept[source])


def cost_of_all(table, kept):
    """What all questions cost together, each as often as it comes."""
    together = 0
    for question in table.questions:
        source = source_read(kept, question.grouping)
        together += question.times * cost_from(table, kept, source)
    return together


def lines_read(table, kept, grouping):
    """The grouping's lines, worked out from what is read for it."""
    source = source_read(kept, grouping)
    if source == FROM_TABLE:
        return lines_from_table(table, grouping)
    return lines_from_answer(table, kept[source], source, grouping)
