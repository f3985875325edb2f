"""Points [1] to [11] over the whole program."""

import unittest
from functools import cmp_to_key
from itertools import permutations

from loosemarks.checker import is_right
from loosemarks.errors import Below, TooGreat
from loosemarks.numbers import compare, number_of, row_of
from loosemarks.piles import is_row, pile_of, worth
from loosemarks.settling import paper_of, settled
from loosemarks.sums import minus, moved, opened, plus, times
from loosemarks.texts import pile_text, read_pile, read_row
from loosemarks.walking import last_row, next_row, rows_from
from tests import samples
from tests.samples import GREATEST_NUMBER, GREATEST_ROW, check_refused, low_rows, many_numbers, picks, row_told

ADDED = [
    [0, 1, 2, 3, 4], [1, 1, 1, 1, 1], [12, 12, 7, 88, 0], [10 ** 10, 3, 10 ** 20, 54, 54],
    [GREATEST_NUMBER // 5] * 5, [GREATEST_NUMBER - 10, 1, 2, 3, 4],
]


def by_each_grouping(rows, pick):
    """The sums of the rows in their order, by each way of setting brackets."""
    if len(rows) == 1:
        return rows
    return [
        plus(left, right, pick)
        for at in range(1, len(rows))
        for left in by_each_grouping(rows[:at], pick)
        for right in by_each_grouping(rows[at:], pick)
    ]


class TestSumsInWhateverOrder(unittest.TestCase):
    def test_each_order_and_each_grouping(self):
        for numbers in ADDED:
            wanted = row_told(sum(numbers))
            rows = [row_told(number) for number in numbers]
            for turned in permutations(rows[:4]):
                for told in by_each_grouping(list(turned), None):
                    self.assertEqual(plus(told, rows[4]), wanted)
                    self.assertEqual(plus(rows[4], told), wanted)

    def test_whichever_moves_are_picked(self):
        for numbers in ADDED:
            rows = [row_told(number) for number in numbers]
            for pick in picks():
                for told in by_each_grouping(rows, pick):
                    self.assertEqual(told, row_told(sum(numbers)))

    def test_all_marks_settled_at_once(self):
        for numbers in ADDED:
            marks = [place for number in numbers for place in row_told(number)]
            for pick in picks():
                self.assertEqual(settled(pile_of(marks), pick), row_told(sum(numbers)))

    def test_what_is_too_great_together_is_so_in_each_order(self):
        rows = [row_told(GREATEST_NUMBER - 5), row_told(3), row_told(3)]
        for one, other, last in permutations(rows):
            with self.assertRaises(TooGreat):
                plus(plus(one, other), last)
            with self.assertRaises(TooGreat):
                plus(one, plus(other, last))


class TestAccount(unittest.TestCase):
    def check_account(self, steps, pick):
        total, row = 0, ()
        for step in steps:
            if 0 <= total + step <= GREATEST_NUMBER:
                total += step
                row = plus(row, row_told(step), pick) if step >= 0 else minus(row, row_told(-step))
            elif step < 0:
                check_refused(self, Below, minus, row, row_told(-step))
            else:
                check_refused(self, TooGreat, plus, row, row_told(step), pick)
            self.assertEqual(row, row_told(total))
            self.assertEqual(number_of(row), total)

    def test_what_is_put_in_and_taken_off(self):
        small = [turn * turn % 23 - 9 for turn in range(300)]
        great = [GREATEST_NUMBER * (turn * 7 % 19 - 9) // 20 for turn in range(200)]
        mixed = [one for two in zip(great, small) for one in two]
        for steps in (small, great, mixed, [5, -6, -5, -1, 0, GREATEST_NUMBER, 1, -GREATEST_NUMBER, -1]):
            for pick in picks()[:3]:
                self.check_account(steps, pick)

    def test_taking_off_more_than_is_there_changes_nothing(self):
        row = row_told(100)
        for more in (101, 102, 1000, GREATEST_NUMBER):
            check_refused(self, Below, minus, row, row_told(more))
            self.assertEqual(row, (2, 4, 9))
        self.assertEqual(minus(row, row_told(100)), ())


class TestOrder(unittest.TestCase):
    def test_rows_put_in_order_stand_as_their_numbers(self):
        numbers = many_numbers()[::3]
        mixed = sorted(numbers, key=lambda number: number * 7919 % 104729)
        rows = sorted([row_told(number) for number in mixed], key=cmp_to_key(compare))
        self.assertEqual([number_of(row) for row in rows], numbers)

    def test_low_rows_put_in_order(self):
        rows = low_rows()
        turned = sorted(rows[::-1], key=cmp_to_key(compare))
        self.assertEqual(turned, rows)


class TestWalk(unittest.TestCase):
    def test_each_number_of_a_range_is_told_once(self):
        for first in (0, 1, 100, 10 ** 15, GREATEST_NUMBER - 499):
            rows = rows_from(row_of(first), 500)
            self.assertEqual([number_of(row) for row in rows], list(range(first, first + 500)))
            for less, more in zip(rows, rows[1:]):
                self.assertEqual(compare(less, more), -1)
                self.assertEqual(last_row(more), less)

    def test_upward_and_back(self):
        row = ()
        for number in range(200):
            self.assertEqual(row, row_of(number))
            row = next_row(row)
        for number in range(200, 0, -1):
            self.assertEqual(row, row_of(number))
            row = last_row(row)
        check_refused(self, Below, last_row, row)


class TestReckoningTogether(unittest.TestCase):
    def test_what_numbers_tell(self):
        numbers = [0, 1, 2, 3, 7, 12, 33, 54, 88, 1000, 10 ** 6 + 3]
        for a in numbers:
            for b in numbers:
                one, other = row_of(a), row_of(b)
                self.assertEqual(minus(plus(one, other), other), one)
                self.assertEqual(times(one, other), times(other, one))
                self.assertEqual(times(one, next_row(other)), plus(times(one, other), one))
                self.assertEqual(number_of(times(plus(one, other), other)), (a + b) * b)

    def test_a_row_moved_twice_is_the_sum_of_it_and_of_it_moved_once(self):
        for number in many_numbers()[::5]:
            row = row_told(number)
            if not row or row[-1] < 98:
                self.assertEqual(moved(row, 2), plus(moved(row), row))

    def test_opened_piles_settle_at_the_same_row(self):
        for number in many_numbers()[::9]:
            pile = row_told(number)
            for turn in range(60):
                places = [place for place in pile if place > 0]
                if places:
                    pile = opened(pile, places[turn * 5 % len(places)])
            self.assertEqual(worth(pile), number)
            self.assertEqual(settled(pile), row_told(number))
            self.assertIs(is_right(pile, paper_of(pile), row_told(number)), True)
            self.assertEqual(read_pile(pile_text(pile)), pile)

    def test_sums_and_products_of_what_is_read(self):
        one, other = read_row("9 4 2"), read_row("5 0")
        self.assertEqual(pile_text(plus(one, other)), pile_text(row_told(114)))
        self.assertEqual(pile_text(minus(one, other)), pile_text(row_told(86)))
        self.assertEqual(pile_text(times(one, other)), pile_text(row_told(1400)))
        self.assertEqual(pile_text(minus(one, one)), "none")

    def test_each_answer_is_a_row(self):
        for row in samples.rows() + [GREATEST_ROW]:
            answers = [plus(row, ()), minus(row, ()), minus(row, row), times(row, (0,)), moved(row, 0)]
            self.assertEqual([is_row(answer) for answer in answers], [True] * 5)


if __name__ == "__main__":
    unittest.main()
