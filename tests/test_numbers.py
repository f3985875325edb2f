"""Point [7]: the row of each number, the number of each row, and the order of rows."""

import unittest
from unittest import mock

from loosemarks import numbers
from loosemarks.errors import NoRow, TooGreat
from loosemarks.numbers import compare, number_of, row_of
from loosemarks.piles import is_row
from loosemarks.settling import settled
from tests import samples
from tests.samples import check_refused, low_rows, many_numbers, row_told, worth_told

GREATEST = 927372692193078999175


def no_numbers():
    return [
        -1, -2, -10 ** 40, -GREATEST, True, False, None, "", "0", "12", b"", b"\x05", [], [3], (), (0,), (0, 2), {},
        {1: 2}, set(), {5}, object(), int, len, samples.Prickly(), samples.Agreeing(),
    ]


def differing(one, other):
    """-1, 0 or 1 by point 7, word by word."""
    mine = set(one) - set(other)
    theirs = set(other) - set(one)
    if not mine and not theirs:
        return 0
    if not theirs or (mine and max(mine) > max(theirs)):
        return 1
    return -1


class TestRowOf(unittest.TestCase):
    def test_low_numbers(self):
        told = [(), (0,), (1,), (2,), (0, 2), (3,), (0, 3), (1, 3), (4,), (0, 4), (1, 4), (2, 4), (0, 2, 4), (5,)]
        self.assertEqual([row_of(number) for number in range(14)], told)

    def test_each_low_row_in_order(self):
        rows = low_rows()
        self.assertEqual([worth_told(row) for row in rows], list(range(377)))
        self.assertEqual([row_of(number) for number in range(377)], rows)

    def test_many_numbers(self):
        for number in many_numbers():
            row = row_of(number)
            self.assertIs(is_row(row), True)
            self.assertEqual(worth_told(row), number)

    def test_what_a_mark_is_worth(self):
        for place in range(100):
            self.assertEqual(row_of(worth_told((place,))), (place,))
            self.assertEqual(row_of(worth_told((place,)) - 1), tuple(range(place - 1, -1, -2))[::-1])

    def test_nought(self):
        self.assertEqual(row_of(0), ())

    def test_the_greatest_and_the_one_above(self):
        self.assertEqual(row_of(927372692193078999175), tuple(range(1, 100, 2)))
        self.assertEqual(row_of(927372692193078999174), (0, *range(3, 100, 2)))
        check_refused(self, TooGreat, row_of, 927372692193078999176)
        check_refused(self, TooGreat, row_of, 927372692193078999177)
        check_refused(self, TooGreat, row_of, 2 * GREATEST)
        check_refused(self, TooGreat, row_of, 10 ** 40)
        check_refused(self, TooGreat, row_of, 10 ** 400)

    def test_no_numbers(self):
        for thing in no_numbers():
            check_refused(self, NoRow, row_of, thing)

    def test_true_and_false_are_no_numbers(self):
        check_refused(self, NoRow, row_of, True)
        check_refused(self, NoRow, row_of, False)

    def test_the_answer_is_a_tuple_of_integers(self):
        for number in (0, 1, 2, 100, GREATEST):
            self.assertIs(type(row_of(number)), tuple)
            self.assertTrue(all(type(place) is int for place in row_of(number)))

    def test_the_row_at_which_a_pile_of_that_worth_settles(self):
        for pile in samples.small_piles_that_fit() + samples.piles_that_fit():
            self.assertEqual(row_of(worth_told(pile)), settled(pile))


class TestNumberOf(unittest.TestCase):
    def test_low_rows(self):
        self.assertEqual([number_of(row) for row in low_rows()], list(range(377)))

    def test_places(self):
        self.assertEqual(number_of(()), 0)
        self.assertEqual([number_of((place,)) for place in range(6)], [1, 2, 3, 5, 8, 13])
        self.assertEqual(number_of((99,)), samples.GREATEST_WORTH)
        self.assertEqual(number_of(samples.GREATEST_ROW), 927372692193078999175)

    def test_each_number_is_read_back(self):
        for number in many_numbers():
            self.assertEqual(number_of(row_of(number)), number)
        for row in samples.rows():
            self.assertEqual(row_of(number_of(row)), row)

    def test_the_answer_is_an_integer(self):
        for row in ((), (0,), (5, 99)):
            self.assertIs(type(number_of(row)), int)

    def test_what_is_no_row(self):
        for thing in samples.no_piles() + samples.piles_that_are_no_rows():
            check_refused(self, NoRow, number_of, thing)
        check_refused(self, NoRow, number_of, (98, 99))
        check_refused(self, NoRow, number_of, (True,))
        check_refused(self, NoRow, number_of, [0, 2])


class TestCompare(unittest.TestCase):
    def test_few_marks(self):
        self.assertEqual(compare((), ()), 0)
        self.assertEqual(compare((), (0,)), -1)
        self.assertEqual(compare((0,), ()), 1)
        self.assertEqual(compare((0,), (0,)), 0)
        self.assertEqual(compare((0, 2), (2,)), 1)
        self.assertEqual(compare((2,), (0, 2)), -1)
        self.assertEqual(compare((0, 2), (3,)), -1)
        self.assertEqual(compare((3,), (0, 2)), 1)
        self.assertEqual(compare((1, 3), (4,)), -1)
        self.assertEqual(compare((0, 5, 9), (2, 9)), 1)
        self.assertEqual(compare((0, 2, 9), (5, 9)), -1)

    def test_each_two_low_rows(self):
        rows = low_rows()[:150]
        for at, one in enumerate(rows):
            for place, other in enumerate(rows):
                wanted = (at > place) - (at < place)
                self.assertEqual(compare(one, other), wanted)
                self.assertEqual(differing(one, other), wanted)

    def test_neighbouring_numbers(self):
        numbers_told = many_numbers()
        for less, more in zip(numbers_told, numbers_told[1:]):
            self.assertEqual(compare(row_told(less), row_told(more)), -1)
            self.assertEqual(compare(row_told(more), row_told(less)), 1)
            self.assertEqual(compare(row_told(more), row_told(more)), 0)

    def test_one_mark_against_all_below(self):
        for place in range(1, 100):
            below = tuple(range(place - 1, -1, -2))[::-1]
            self.assertEqual(compare(below, (place,)), -1)
            self.assertEqual(compare((place,), below), 1)

    def test_the_same_row_made_anew(self):
        for row in samples.rows():
            self.assertEqual(compare(row, tuple(list(row))), 0)

    def test_the_answer_is_an_integer(self):
        for one, other in (((), ()), ((), (0,)), ((0,), ())):
            self.assertIs(type(compare(one, other)), int)

    def test_by_places_alone(self):
        wrong = AssertionError("asked what marks are worth")
        with mock.patch.object(numbers, "worth", side_effect=wrong):
            with mock.patch.object(numbers, "mark_worths", side_effect=wrong):
                with mock.patch.object(numbers, "number_of", side_effect=wrong):
                    self.assertEqual(compare((1, 3), (4,)), -1)
                    self.assertEqual(compare((0, 5, 9), (2, 9)), 1)
                    self.assertEqual(compare((0, 5), (0, 5)), 0)

    def test_what_is_no_row(self):
        for thing in samples.no_piles() + samples.piles_that_are_no_rows():
            check_refused(self, NoRow, compare, thing, (0, 2))
            check_refused(self, NoRow, compare, (0, 2), thing)
            check_refused(self, NoRow, compare, (), thing)
            check_refused(self, NoRow, compare, thing, ())
            check_refused(self, NoRow, compare, thing, thing)


class TestNothingIsChanged(unittest.TestCase):
    def test_things_handed_in_stay_as_they_were(self):
        for thing in ([3, 1], (0, [2]), {3: [1]}):
            before = repr(thing)
            check_refused(self, NoRow, row_of, thing)
            check_refused(self, NoRow, number_of, thing)
            check_refused(self, NoRow, compare, thing, (0,))
            check_refused(self, NoRow, compare, (0,), thing)
            self.assertEqual(repr(thing), before)

    def test_asking_again_tells_the_same(self):
        for number in (0, 1, 12, 10 ** 20, GREATEST):
            self.assertEqual(row_of(number), row_of(number))
            self.assertEqual(number_of(row_of(number)), number_of(row_of(number)))


if __name__ == "__main__":
    unittest.main()
