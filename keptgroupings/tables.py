"""The calls on one object that holds a table and kept answers, or none."""

from keptgroupings.faults import Fault
from keptgroupings.groupings import can_be_worked_out, is_grouping, lines_from_answer
from keptgroupings.groupings import lines_from_table, sizes_of_all
from keptgroupings.keeping import cost_from, cost_of_all, kept_answers, lines_read, lines_together
from keptgroupings.keeping import source_read, with_one_more
from keptgroupings.oneform import one_form
from keptgroupings.reading import table_of

NO_TABLE = -1
NO_GROUPING = -2
NO_QUESTION = -3
NOT_WORKED_OUT = -5


class Holder:
    """The object that calls are made on."""

    def __init__(self):
        self.table = None
        self.kept = {}


def load(holder, text):
    try:
        table = table_of(text)
    except Fault as fault:
        return [0, fault.code, fault.place]
    holder.table = table
    holder.kept = {}
    return [1, len(table.columns), len(table.rows), len(table.questions)]


def shown(holder, numbers):
    form = one_form(holder.table)
    return [len(form)] + form


def group(holder, numbers):
    grouping = numbers[0]
    if not is_grouping(holder.table, grouping):
        return [NO_GROUPING]
    return told(lines_from_table(holder.table, grouping))


def roll(holder, numbers):
    source = numbers[0]
    grouping = numbers[1]
    if not is_grouping(holder.table, source) or not is_grouping(holder.table, grouping):
        return [NO_GROUPING]
    if not can_be_worked_out(grouping, source):
        return [NOT_WORKED_OUT]
    lines = lines_from_table(holder.table, source)
    return told(lines_from_answer(holder.table, lines, source, grouping))


def sizes(holder, numbers):
    return [len(holder.table.rows)] + sizes_of_all(holder.table)


def keep(holder, groupings):
    if not all([is_grouping(holder.table, grouping) for grouping in groupings]):
        return [NO_GROUPING]
    holder.kept = kept_answers(holder.table, groupings)
    return [1, len(holder.kept), lines_together(holder.kept)]


def cost(holder, numbers):
    if not is_question(holder.table, numbers[0]):
        return [NO_QUESTION]
    question = holder.table.questions[numbers[0]]
    source = source_read(holder.kept, question.grouping)
    return [cost_from(holder.table, holder.kept, source), source, question.times]


def answer(holder, numbers):
    if not is_question(holder.table, numbers[0]):
        return [NO_QUESTION]
    question = holder.table.questions[numbers[0]]
    return told(lines_read(holder.table, holder.kept, question.grouping))


def total(holder, numbers):
    cost_now = cost_of_all(holder.table, holder.kept)
    return [cost_now, cost_of_all(holder.table, {}), lines_together(holder.kept)]


def gain(holder, numbers):
    grouping = numbers[0]
    if not is_grouping(holder.table, grouping):
        return [NO_GROUPING]
    more = with_one_more(holder.table, holder.kept, grouping)
    cost_now = cost_of_all(holder.table, holder.kept)
    return [cost_now - cost_of_all(holder.table, more), len(more[grouping])]


# By the call's number: what is done, and how many whole numbers the call has besides a list.
DEEDS = (load, shown, group, roll, sizes, keep, cost, answer, total, gain)
PLAIN_NUMBERS = (0, 0, 1, 2, 0, 0, 1, 1, 0, 1)
CALLS_WITH_A_LIST = (0, 5)
LOAD = 0


def answers(calls):
    """For each call, in order: how many numbers are answered, and they."""
    holder = Holder()
    given = []
    place = 0
    while place < len(calls):
        first = first_number(calls, place)
        behind = first + how_many_numbers(calls, place)
        answered = answer_to(holder, calls[place], calls[first:behind])
        given.append(len(answered))
        given.extend(answered)
        place = behind
    return given


def first_number(calls, place):
    """Where the numbers of the call at this place begin, its list's length gone past."""
    if calls[place] in CALLS_WITH_A_LIST:
        return place + 2
    return place + 1


def how_many_numbers(calls, place):
    """How many numbers the call at this place has, its list's length not among them."""
    if calls[place] in CALLS_WITH_A_LIST:
        return calls[place + 1]
    return PLAIN_NUMBERS[calls[place]]


def answer_to(holder, call, numbers):
    if holder.table is None and call != LOAD:
        return [NO_TABLE]
    deed = DEEDS[call]
    return deed(holder, numbers)


def is_question(table, number):
    return 0 <= number < len(table.questions)


def told(lines):
    """How many lines there are, and they."""
    out = [len(lines)]
    for line in lines:
        out.extend(line.numbers)
        out.append(line.amount)
        out.append(line.count)
    return out
