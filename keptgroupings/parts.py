"""What a table is made of."""


class Line:
    """Numbers in some columns, what is summed over them, and how many rows that were.

    A row of the table is a line of all columns that stands for one row.
    """

    def __init__(self, numbers, amount, count):
        self.numbers = numbers
        self.amount = amount
        self.count = count


class Question:
    """The grouping that is asked for, and how often it comes."""

    def __init__(self, grouping, times):
        self.grouping = grouping
        self.times = times


class Table:
    """The columns' names as lists of bytes, the rows as lines, the questions."""

    def __init__(self, columns):
        self.columns = columns
        self.rows = []
        self.questions = []
