"""Point [8]: the next row, the last one, and the rows from one on."""

import unittest

from loosemarks.errors import Below, NoRow, TooGreat
from loosemarks.walking import last_row, next_row, rows_from
from tests import samples
from tests.samples import (
    GREATEST_NUMBER, GREATEST_ROW, check_refused, low_rows, many_numbers, row_told, worth_told,
)


def no_rows():
    return samples.no_piles() + samples.piles_that_are_no_rows()


class TestNextRow(unittest.TestCase):
    def test_few_marks(self):
        self.assertEqual(next_row(()), (0,))
        self.assertEqual(next_row((0,)), (1,))
        self.assertEqual(next_row((1,)), (2,))
        self.assertEqual(next_row((2,)), (0, 2))
        self.assertEqual(next_row((0, 2)), (3,))
        self.assertEqual(next_row((1, 3)), (4,))

    def test_low_rows(self):
        rows = low_rows()
        for row, wanted in zip(rows, rows[1:]):
            self.assertEqual(next_row(row), wanted)

    def test_numbers_of_each_size(self):
        for number in many_numbers():
            if number < GREATEST_NUMBER:
                self.assertEqual(next_row(row_told(number)), row_told(number + 1))

    def test_all_below_a_mark(self):
        for place in range(1, 100):
            self.assertEqual(next_row(tuple(range(place - 1, -1, -2))[::-1]), (place,))

    def test_the_greatest_row_and_the_one_below(self):
        check_refused(self, TooGreat, next_row, GREATEST_ROW)
        self.assertEqual(next_row((0, *range(3, 100, 2))), GREATEST_ROW)

    def test_no_rows(self):
        for thing in no_rows():
            check_refused(self, NoRow, next_row, thing)

    def test_no_row_is_told_ahead_of_too_great(self):
        for thing in ((98, 99), (99, 99), list(GREATEST_ROW), (0,) + GREATEST_ROW, tuple(range(100))):
            check_refused(self, NoRow, next_row, thing)


class TestLastRow(unittest.TestCase):
    def test_few_marks(self):
        self.assertEqual(last_row((0,)), ())
        self.assertEqual(last_row((1,)), (0,))
        self.assertEqual(last_row((2,)), (1,))
        self.assertEqual(last_row((0, 2)), (2,))
        self.assertEqual(last_row((3,)), (0, 2))
        self.assertEqual(last_row((4,)), (1, 3))

    def test_low_rows(self):
        rows = low_rows()
        for wanted, row in zip(rows, rows[1:]):
            self.assertEqual(last_row(row), wanted)

    def test_numbers_of_each_size(self):
        for number in many_numbers():
            if number > 0:
                self.assertEqual(last_row(row_told(number)), row_told(number - 1))

    def test_each_mark_alone(self):
        for place in range(1, 100):
            self.assertEqual(last_row((place,)), tuple(range(place - 1, -1, -2))[::-1])

    def test_the_empty_row_has_none(self):
        check_refused(self, Below, last_row, ())

    def test_the_greatest_row(self):
        self.assertEqual(last_row(GREATEST_ROW), (0, *range(3, 100, 2)))

    def test_no_rows(self):
        for thing in no_rows():
            check_refused(self, NoRow, last_row, thing)

    def test_no_row_is_told_ahead_of_below(self):
        for thing in ([], "", None, False, 0, {}, (0, 0), (True,)):
            check_refused(self, NoRow, last_row, thing)


class TestRowsFrom(unittest.TestCase):
    def test_few_rows(self):
        self.assertEqual(rows_from((), 4), [(), (0,), (1,), (2,)])
        self.assertEqual(rows_from((0, 2), 3), [(0, 2), (3,), (0, 3)])
        self.assertEqual(rows_from((99,), 2), [(99,), (0, 99)])

    def test_each_low_row_by_each_number_of_rows(self):
        rows = low_rows()
        for at in range(40):
            for many in range(40):
                self.assertEqual(rows_from(rows[at], many), rows[at:at + many])

    def test_many_rows(self):
        self.assertEqual(rows_from((), 377), low_rows())
        self.assertEqual(rows_from(row_told(10 ** 20), 2000), [row_told(10 ** 20 + more) for more in range(2000)])

    def test_none_and_one(self):
        for row in samples.rows() + [GREATEST_ROW]:
            self.assertEqual(rows_from(row, 0), [])
            self.assertEqual(rows_from(row, 1), [row])

    def test_up_to_the_greatest_row_and_one_behind_it(self):
        for many in range(1, 60):
            row = row_told(GREATEST_NUMBER - many + 1)
            wanted = [row_told(GREATEST_NUMBER - less) for less in range(many - 1, -1, -1)]
            self.assertEqual(rows_from(row, many), wanted)
            self.assertEqual(wanted[-1], GREATEST_ROW)
            check_refused(self, TooGreat, rows_from, row, many + 1)
        check_refused(self, TooGreat, rows_from, GREATEST_ROW, 2)

    def test_more_rows_than_there_are(self):
        check_refused(self, TooGreat, rows_from, (), GREATEST_NUMBER + 2)
        check_refused(self, TooGreat, rows_from, (0,), GREATEST_NUMBER + 1)
        check_refused(self, TooGreat, rows_from, (99,), 10 ** 40)

    def test_no_rows(self):
        for thing in no_rows():
            for many in (0, 1, 5):
                check_refused(self, NoRow, rows_from, thing, many)

    def test_no_row_is_told_ahead_of_too_great(self):
        for thing in ((98, 99), list(GREATEST_ROW), (0,) + GREATEST_ROW):
            check_refused(self, NoRow, rows_from, thing, 2)
            check_refused(self, NoRow, rows_from, thing, 10 ** 40)


class TestTheAnswersAndWhatIsHandedIn(unittest.TestCase):
    def test_the_answers_are_tuples_and_lists_of_them(self):
        for row in (next_row((0,)), last_row((1,)), next_row(()), last_row((0,))):
            self.assertIs(type(row), tuple)
            self.assertTrue(all(type(place) is int for place in row))
        for many in (0, 1, 2):
            self.assertIs(type(rows_from((), many)), list)
            self.assertTrue(all(type(row) is tuple for row in rows_from((), many)))

    def test_the_list_is_the_askers_own(self):
        for many in (0, 1, 7):
            first = rows_from((0,), many)
            wanted = list(first)
            first.append("mine")
            first.reverse()
            self.assertEqual(rows_from((0,), many), wanted)

    def test_things_handed_in_stay_as_they_were(self):
        for thing in ([2, 0], (0, [2]), {3: [1]}):
            before = repr(thing)
            check_refused(self, NoRow, next_row, thing)
            check_refused(self, NoRow, last_row, thing)
            check_refused(self, NoRow, rows_from, thing, 3)
            self.assertEqual(repr(thing), before)

    def test_there_and_back(self):
        for number in many_numbers()[1:-1:7]:
            row = row_told(number)
            self.assertEqual(last_row(next_row(row)), row)
            self.assertEqual(next_row(last_row(row)), row)
            self.assertEqual(worth_told(next_row(row)), number + 1)


if __name__ == "__main__":
    unittest.main()
