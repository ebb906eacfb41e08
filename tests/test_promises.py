"""The promises about kept answers, over many tables and many choices of what is kept."""

import unittest
from itertools import combinations

from tests.helpers import TABLES, asked, plain_lines, question_text, table_text

TIMES = (1, 2, 99, 3, 10, 1, 5, 7)


def halves(width):
    """The groupings, eight at the most together, since a table has no more questions."""
    return [range(start, min(start + 8, 2 ** width)) for start in range(0, 2 ** width, 8)]


def asked_table(width, rows, groupings):
    return table_text(width, rows, [question_text(grouping, times) for grouping, times in zip(groupings, TIMES)])


def choices(width):
    """All that can be kept of a small table's groupings; of a great one's a part."""
    if width < 4:
        return [kept for count in range(2 ** width + 1) for kept in combinations(range(2 ** width), count)]
    return [(), (15,), (0,), (3, 12), (5, 10, 15), (7, 11, 13, 14), (1, 2, 4, 8), (0, 6, 9, 15), tuple(range(16))]


def in_parts(calls_of_each, text):
    """The answers to each part's calls, as many parts on one object as sixty calls hold."""
    told = []
    calls = []
    for part in calls_of_each + [None]:
        if part is None or 1 + len(calls) + len(part) > 60:
            told.extend(asked(("load", text), *calls)[1:])
            calls = []
        if part is not None:
            calls.extend(part)
    return told


def costs_with(width, rows, choices_kept):
    """For each choice of what is kept: for each grouping, what its question costs and what it reads."""
    found = {kept: {} for kept in choices_kept}
    for groupings in halves(width):
        text = asked_table(width, rows, groupings)
        parts = [[("keep", list(kept))] + [("cost", question) for question in range(len(groupings))]
                 for kept in choices_kept]
        told = iter(in_parts(parts, text))
        for kept in choices_kept:
            next(told)
            for grouping, times in zip(groupings, TIMES):
                cost, source, often = next(told)
                assert often == times
                found[kept][grouping] = (cost, source)
    return found


def totals_with(width, rows, groupings, choices_kept):
    """For each choice of what is kept, what all questions by these groupings cost together."""
    parts = [[("keep", list(kept)), ("total",)] for kept in choices_kept]
    told = in_parts(parts, asked_table(width, rows, groupings))
    return dict(zip(choices_kept, [answer[0] for answer in told[1::2]]))


def with_one_more(kept, grouping):
    return tuple(sorted(set(kept) | {grouping}))


class WhatIsRead(unittest.TestCase):
    def test_none_that_serves_has_fewer_lines(self):
        for width, rows in TABLES:
            sizes = [len(plain_lines(width, rows, grouping)) for grouping in range(2 ** width)]
            for kept, costs in costs_with(width, rows, choices(width)).items():
                for grouping, (cost, source) in costs.items():
                    serving = [one for one in kept if one | grouping == one]
                    with self.subTest(width=width, rows=rows, kept=kept, grouping=grouping):
                        if not serving:
                            self.assertEqual((cost, source), (len(rows), -1))
                        else:
                            least = min(sizes[one] for one in serving)
                            alike = [one for one in serving if sizes[one] == least]
                            self.assertEqual((cost, source), (least, min(alike)))


class MoreKept(unittest.TestCase):
    def test_nothing_costs_more(self):
        for width, rows in TABLES:
            bases = choices(width)
            wider = {with_one_more(kept, grouping) for kept in bases for grouping in range(2 ** width)}
            costs = costs_with(width, rows, sorted(set(bases) | wider))
            for kept in bases:
                for more in {with_one_more(kept, grouping) for grouping in range(2 ** width)}:
                    for grouping in range(2 ** width):
                        with self.subTest(width=width, rows=rows, kept=kept, more=more, grouping=grouping):
                            self.assertLessEqual(costs[more][grouping][0], costs[kept][grouping][0])


class Savings(unittest.TestCase):
    def test_both_save_at_most_what_each_saves_added(self):
        for width, rows in TABLES:
            for groupings in halves(width):
                pairs = list(combinations(range(2 ** width), 2))
                alone = [(grouping,) for grouping in range(2 ** width)]
                totals = totals_with(width, rows, groupings, [()] + alone + pairs)
                saved = {kept: totals[()] - cost for kept, cost in totals.items()}
                for one, other in pairs:
                    with self.subTest(width=width, rows=rows, one=one, other=other):
                        self.assertLessEqual(saved[(one, other)], saved[(one,)] + saved[(other,)])

    def test_also_beside_others_that_are_kept(self):
        for width, rows in TABLES:
            for groupings in halves(width):
                pairs = list(combinations(range(2 ** width), 2))
                text = asked_table(width, rows, groupings)
                parts = [[("keep", [base]), ("gain", one), ("gain", other), ("keep", [base, one]), ("gain", other)]
                         for base in (2 ** width - 1, 1) for one, other in pairs]
                told = in_parts(parts, text)
                for start in range(0, len(told), 5):
                    one, other, other_behind_one = (told[start + step][0] for step in (1, 2, 4))
                    with self.subTest(width=width, rows=rows, part=parts[start // 5]):
                        self.assertLessEqual(other_behind_one, other)
                        self.assertGreaterEqual(min(one, other, other_behind_one), 0)

    def test_gain_is_how_much_total_falls(self):
        for width, rows in TABLES:
            sizes = [len(plain_lines(width, rows, grouping)) for grouping in range(2 ** width)]
            for groupings in halves(width):
                text = asked_table(width, rows, groupings)
                tried = [(kept, one) for kept in choices(width)[:40] for one in range(2 ** width)]
                parts = [[("keep", list(kept)), ("gain", one), ("total",), ("keep", list(kept) + [one]), ("total",)]
                         for kept, one in tried]
                told = in_parts(parts, text)
                for start, (kept, one) in zip(range(0, len(told), 5), tried):
                    gain, before, after = (told[start + step] for step in (1, 2, 4))
                    with self.subTest(width=width, rows=rows, kept=kept, one=one):
                        self.assertEqual(gain, [before[0] - after[0], sizes[one]])
                        self.assertEqual(before[1], after[1])
                        if one in kept:
                            self.assertEqual(gain[0], 0)
