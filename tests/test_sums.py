"""Points [9] and [10]: sums, differences, products, rows moved on, and opened marks."""

import unittest
from math import isqrt
from unittest import mock

from loosemarks import numbers, piles, sums
from loosemarks.errors import Below, NoMove, NoPile, NoRow, TooGreat
from loosemarks.moves import done
from loosemarks.piles import is_row
from loosemarks.settling import laid
from loosemarks.sums import minus, moved, opened, plus, times
from tests import samples
from tests.samples import (
    GREATEST_NUMBER, GREATEST_ROW, Watched, check_refused, low_rows, many_numbers, moves_to_make, picks, row_told,
    worth_told,
)

# Rows to try with one another: few marks and many, at the lowest places and at the highest.
ROWS = samples.rows() + [row_told(number) for number in (4, 11, 12, 88, 10 ** 10, 10 ** 20 + 7, GREATEST_NUMBER - 1)]

# Products of which one or the other way round takes many moves.
LONG_PRODUCTS = [
    (12345678901, 75113000000), (30000000000, 30000000000), (9273726921930789, 100000), (463686346096539499587, 2),
    (299, 3100000000000000000), (54018520, 17167000000000), (GREATEST_NUMBER, 1),
]


def no_rows():
    return samples.no_piles() + samples.piles_that_are_no_rows()


def some_numbers():
    return many_numbers()[::37] + [GREATEST_NUMBER]


def piles_to_open():
    return [pile for pile in samples.small_piles() + samples.great_piles() + ROWS if len(pile) < 240]


def opened_told(pile, place):
    """The pile with a mark opened, as the document tells it."""
    come = [0, 0] if place == 1 else [place - 1, place - 2]
    at = pile.index(place)
    return tuple(sorted([*pile[:at], *pile[at + 1:], *come]))


class SumsCase(unittest.TestCase):
    def check_row(self, row, number):
        self.assertIs(is_row(row), True)
        self.assertEqual(worth_told(row), number)
        self.assertEqual(row, row_told(number))

    def check_no_rows(self, function, *rest):
        for thing in no_rows():
            for row in ((), (0, 2), GREATEST_ROW):
                check_refused(self, NoRow, function, thing, row, *rest)
                check_refused(self, NoRow, function, row, thing, *rest)
            check_refused(self, NoRow, function, thing, thing, *rest)


class TestPlus(SumsCase):
    def test_few_marks(self):
        self.assertEqual(plus((0,), (0,)), (1,))
        self.assertEqual(plus((0,), (1,)), (2,))
        self.assertEqual(plus((1,), (1,)), (0, 2))
        self.assertEqual(plus((1, 3), (0, 2)), (2, 4))
        self.assertEqual(plus((3,), (3,)), (1, 4))
        self.assertEqual(plus((0,), (99,)), (0, 99))

    def test_each_two_low_rows(self):
        rows = low_rows()
        for one in range(60):
            for other in range(60):
                self.assertEqual(plus(rows[one], rows[other]), rows[one + other])

    def test_numbers_of_each_size(self):
        for one in some_numbers():
            for other in some_numbers()[::3]:
                if one + other <= GREATEST_NUMBER:
                    self.check_row(plus(row_told(one), row_told(other)), one + other)
                else:
                    check_refused(self, TooGreat, plus, row_told(one), row_told(other))

    def test_the_empty_row(self):
        self.assertEqual(plus((), ()), ())
        for row in ROWS + [GREATEST_ROW]:
            self.assertEqual(plus(row, ()), row)
            self.assertEqual(plus((), row), row)

    def test_sums_that_just_fit_and_that_just_do_not(self):
        for number in many_numbers()[::5]:
            row = row_told(number)
            self.assertEqual(plus(row, row_told(GREATEST_NUMBER - number)), GREATEST_ROW)
            if number:
                check_refused(self, TooGreat, plus, row, row_told(GREATEST_NUMBER - number + 1))
        check_refused(self, TooGreat, plus, (0,), GREATEST_ROW)
        check_refused(self, TooGreat, plus, GREATEST_ROW, GREATEST_ROW)
        check_refused(self, TooGreat, plus, (99,), (99,))
        check_refused(self, TooGreat, plus, (98,), (99,))
        self.assertEqual(plus((98,), (98,)), (96, 99))
        self.assertEqual(plus((97,), (99,)), (97, 99))

    def test_each_pick_is_followed(self):
        for one in ROWS:
            for other in ROWS:
                total = worth_told(one) + worth_told(other)
                for choose in picks()[1:]:
                    pick = Watched(self, tuple(sorted(one + other)), choose)
                    if total <= GREATEST_NUMBER:
                        self.assertEqual(plus(one, other, pick), row_told(total))
                        self.assertEqual(pick.pile, row_told(total))
                    else:
                        check_refused(self, TooGreat, plus, one, other, pick)
                        self.assertEqual(moves_to_make(pick.pile), [])

    def test_none_and_left_out_are_the_first_move(self):
        for one in ROWS:
            for other in ROWS:
                if worth_told(one) + worth_told(other) <= GREATEST_NUMBER:
                    told = plus(one, other, lambda moves: 0)
                    self.assertEqual(plus(one, other, None), told)
                    self.assertEqual(plus(one, other), told)

    def test_pick_is_not_asked_where_there_is_no_move(self):
        def unasked(moves):
            self.fail("asked")

        for row in ROWS:
            self.assertEqual(plus(row, (), unasked), row)
        self.assertEqual(plus((0, 4), (2, 99), unasked), (0, 2, 4, 99))
        check_refused(self, TooGreat, plus, (98,), (99,), unasked)
        check_refused(self, NoRow, plus, (0, 0), (0,), unasked)

    def test_the_list_that_pick_is_handed_is_its_own(self):
        def spoiling(moves):
            place = len(moves) - 1
            moves.clear()
            return place

        self.assertEqual(plus((0, 2, 4, 6), (0, 2, 4, 6), spoiling), row_told(2 * worth_told((0, 2, 4, 6))))

    def test_no_rows(self):
        self.check_no_rows(plus)
        self.check_no_rows(plus, None)

    def test_no_row_is_told_ahead_of_too_great(self):
        check_refused(self, NoRow, plus, (98, 99), GREATEST_ROW)
        check_refused(self, NoRow, plus, GREATEST_ROW, (98, 99))
        check_refused(self, NoRow, plus, GREATEST_ROW, list(GREATEST_ROW))


class TestMinus(SumsCase):
    def test_few_marks(self):
        self.assertEqual(minus((1,), (0,)), (0,))
        self.assertEqual(minus((2,), (0,)), (1,))
        self.assertEqual(minus((2,), (1,)), (0,))
        self.assertEqual(minus((5,), (0, 2, 4)), (0,))
        self.assertEqual(minus((0, 5), (2,)), (2, 4))
        self.assertEqual(minus((0, 99), (99,)), (0,))
        self.assertEqual(minus((99,), (98,)), (97,))

    def test_each_two_low_rows(self):
        rows = low_rows()
        for one in range(90):
            for other in range(90):
                if one >= other:
                    self.assertEqual(minus(rows[one], rows[other]), rows[one - other])
                else:
                    check_refused(self, Below, minus, rows[one], rows[other])

    def test_numbers_of_each_size(self):
        for one in some_numbers():
            for other in some_numbers()[::3]:
                if one >= other:
                    self.check_row(minus(row_told(one), row_told(other)), one - other)
                else:
                    check_refused(self, Below, minus, row_told(one), row_told(other))

    def test_nought_and_one_below_it(self):
        for number in many_numbers()[::3]:
            row = row_told(number)
            self.assertEqual(minus(row, row), ())
            self.assertEqual(minus(row, ()), row)
            if number < GREATEST_NUMBER:
                check_refused(self, Below, minus, row, row_told(number + 1))
                self.assertEqual(minus(row_told(number + 1), row), (0,))
        check_refused(self, Below, minus, (), (0,))
        check_refused(self, Below, minus, (), (99,))
        check_refused(self, Below, minus, (), GREATEST_ROW)
        check_refused(self, Below, minus, GREATEST_ROW[:-1], (99,))
        self.assertEqual(minus((), ()), ())

    def test_one_mark_less_all_below(self):
        for place in range(1, 100):
            below = tuple(range(place - 1, -1, -2))[::-1]
            self.assertEqual(minus((place,), below), (0,))
            self.assertEqual(minus((place,), (0,)), below)
            check_refused(self, Below, minus, below, (place,))

    def test_each_mark_off_each_mark(self):
        for high in range(100):
            for low in range(high + 1):
                self.check_row(minus((high,), (low,)), worth_told((high,)) - worth_told((low,)))

    def test_no_rows(self):
        self.check_no_rows(minus)

    def test_no_row_is_told_ahead_of_below(self):
        check_refused(self, NoRow, minus, (), (0, 0))
        check_refused(self, NoRow, minus, (0, 0), (99,))
        check_refused(self, NoRow, minus, [], (0,))
        check_refused(self, NoRow, minus, (0,), (98, 99))


class TestTimes(SumsCase):
    def test_few_marks(self):
        self.assertEqual(times((0,), (0,)), (0,))
        self.assertEqual(times((1,), (1,)), (0, 2))
        self.assertEqual(times((1,), (2,)), (0, 3))
        self.assertEqual(times((3,), (4,)), row_told(40))
        self.assertEqual(times((0, 2), (1, 3)), row_told(28))

    def test_each_two_low_rows(self):
        rows = low_rows()
        for one in range(20):
            for other in range(19):
                self.assertEqual(times(rows[one], rows[other]), rows[one * other])

    def test_nought_and_one(self):
        for row in ROWS + [GREATEST_ROW]:
            self.assertEqual(times(row, ()), ())
            self.assertEqual(times((), row), ())
            self.assertEqual(times(row, (0,)), row)
            self.assertEqual(times((0,), row), row)
        self.assertEqual(times((), ()), ())

    def test_numbers_of_each_size(self):
        few = [number for number in many_numbers() if number < 10 ** 12][::10]
        for one in few:
            for other in few:
                if one * other <= GREATEST_NUMBER:
                    self.check_row(times(row_told(one), row_told(other)), one * other)
                else:
                    check_refused(self, TooGreat, times, row_told(one), row_told(other))

    def test_products_that_just_fit_and_that_just_do_not(self):
        factors = [number for number in many_numbers() if number][::23]
        for one in factors + [2, 3, 4, 5, 10 ** 6, isqrt(GREATEST_NUMBER)]:
            other = GREATEST_NUMBER // one
            self.check_row(times(row_told(one), row_told(other)), one * other)
            self.check_row(times(row_told(other), row_told(one)), one * other)
            if other < GREATEST_NUMBER:
                check_refused(self, TooGreat, times, row_told(one), row_told(other + 1))
                check_refused(self, TooGreat, times, row_told(other + 1), row_told(one))

    def test_products_of_many_moves(self):
        for one, other in LONG_PRODUCTS:
            self.check_row(times(row_told(one), row_told(other)), one * other)
            self.check_row(times(row_told(other), row_told(one)), one * other)

    def test_the_greatest_row_as_a_product(self):
        for one in (1, 5, 25):
            self.assertEqual(GREATEST_NUMBER % one, 0)
            self.assertEqual(times(row_told(one), row_told(GREATEST_NUMBER // one)), GREATEST_ROW)

    def test_great_marks(self):
        self.assertEqual(times((98,), (1,)), (96, 99))
        self.assertEqual(times((1,), (98,)), (96, 99))
        check_refused(self, TooGreat, times, (99,), (1,))
        check_refused(self, TooGreat, times, (1,), (99,))
        check_refused(self, TooGreat, times, GREATEST_ROW, GREATEST_ROW)
        check_refused(self, TooGreat, times, (99,), (99,))

    def test_no_rows(self):
        self.check_no_rows(times)

    def test_no_row_is_told_ahead_of_too_great(self):
        check_refused(self, NoRow, times, (98, 99), GREATEST_ROW)
        check_refused(self, NoRow, times, GREATEST_ROW, (99, 99))


class TestMoved(SumsCase):
    def test_few_marks(self):
        self.assertEqual(moved((0,)), (1,))
        self.assertEqual(moved((0, 2, 5)), (1, 3, 6))
        self.assertEqual(moved((0, 2, 5), 1), (1, 3, 6))
        self.assertEqual(moved((0, 2, 5), 10), (10, 12, 15))

    def test_each_row_by_each_number_of_places(self):
        for row in ROWS + [GREATEST_ROW]:
            for places in range(130):
                if row and max(row) + places > 99:
                    check_refused(self, TooGreat, moved, row, places)
                else:
                    told = moved(row, places)
                    self.assertIs(is_row(told), True)
                    self.assertEqual(told, tuple(place + places for place in row))

    def test_no_places(self):
        for row in ROWS + [GREATEST_ROW]:
            self.assertEqual(moved(row, 0), row)

    def test_the_empty_row(self):
        for places in (0, 1, 99, 100, 101, 10 ** 40):
            self.assertEqual(moved((), places), ())
        self.assertEqual(moved(()), ())

    def test_rows_that_just_fit_and_that_just_do_not(self):
        self.assertEqual(moved((98,)), (99,))
        check_refused(self, TooGreat, moved, (99,))
        self.assertEqual(moved((0,), 99), (99,))
        check_refused(self, TooGreat, moved, (0,), 100)
        self.assertEqual(moved(tuple(range(0, 100, 2))), GREATEST_ROW)
        check_refused(self, TooGreat, moved, GREATEST_ROW)
        check_refused(self, TooGreat, moved, (0, 99))
        check_refused(self, TooGreat, moved, (0,), 10 ** 40)

    def test_the_greatest_number_below(self):
        for a in range(1, 2000):
            self.check_greatest_below(a)
        for number in many_numbers():
            if 0 < number <= samples.GREATEST_WORTH:
                self.check_greatest_below(number)

    def check_greatest_below(self, a):
        b = worth_told(moved(row_told(a - 1))) + 1
        self.assertLess(b * b, b * a + a * a)
        self.assertGreaterEqual((b + 1) * (b + 1), (b + 1) * a + a * a)

    def test_no_rows(self):
        for thing in no_rows():
            check_refused(self, NoRow, moved, thing)
            check_refused(self, NoRow, moved, thing, 0)
            check_refused(self, NoRow, moved, thing, 100)

    def test_no_row_is_told_ahead_of_too_great(self):
        check_refused(self, NoRow, moved, (98, 99))
        check_refused(self, NoRow, moved, (99, 99), 5)
        check_refused(self, NoRow, moved, [99])


class TestOpened(unittest.TestCase):
    def test_places_0_1_and_2(self):
        check_refused(self, NoMove, opened, (0,), 0)
        check_refused(self, NoMove, opened, (0, 0, 5), 0)
        self.assertEqual(opened((1,), 1), (0, 0))
        self.assertEqual(opened((0, 1, 1, 2), 1), (0, 0, 0, 1, 2))
        self.assertEqual(opened((2,), 2), (0, 1))
        self.assertEqual(opened((0, 2, 2), 2), (0, 0, 1, 2))

    def test_each_place_alone(self):
        for place in range(2, 100):
            self.assertEqual(opened((place,), place), (place - 2, place - 1))
        self.assertEqual(opened((99,), 99), (97, 98))

    def test_one_mark_of_several_at_a_place(self):
        self.assertEqual(opened((7, 7, 7), 7), (5, 6, 7, 7))
        self.assertEqual(opened((1, 1), 1), (0, 0, 1))

    def test_each_place_of_piles(self):
        for pile in piles_to_open():
            for place in range(100):
                if place in pile and place != 0:
                    told = opened(pile, place)
                    self.assertEqual(told, opened_told(pile, place))
                    self.assertEqual(worth_told(told), worth_told(pile))
                else:
                    check_refused(self, NoMove, opened, pile, place)

    def test_the_move_that_takes_it_back(self):
        for pile in piles_to_open():
            for place in set(pile) - {0}:
                back = ("part", 0) if place == 1 else ("join", place - 2)
                self.assertEqual(done(opened(pile, place), back), pile)

    def test_a_join_taken_back(self):
        for pile in samples.small_piles() + samples.great_piles():
            for kind, place in moves_to_make(pile):
                if kind == "join":
                    self.assertEqual(opened(done(pile, ("join", place)), place + 2), pile)

    def test_239_and_240_marks(self):
        self.assertEqual(opened((5,) * 239, 5), (3, 4) + (5,) * 238)
        self.assertEqual(opened((1,) * 239, 1), (0, 0) + (1,) * 238)
        check_refused(self, NoMove, opened, (0,) * 240, 0)
        check_refused(self, NoMove, opened, (5,) * 240, 6)
        check_refused(self, NoPile, opened, (5,) * 241, 5)

    def test_more_marks_than_promised_raise_no_error(self):
        opened((5,) * 240, 5)
        opened((1,) * 240, 1)

    def test_what_is_no_place(self):
        for thing in samples.no_places():
            for pile in ((), (0,), (1,), (0, 1, 2, 99)):
                check_refused(self, NoMove, opened, pile, thing)

    def test_true_and_false_are_no_places(self):
        check_refused(self, NoMove, opened, (0, 1), True)
        check_refused(self, NoMove, opened, (0, 1), False)

    def test_the_empty_pile(self):
        for place in range(100):
            check_refused(self, NoMove, opened, (), place)

    def test_no_piles(self):
        for thing in samples.no_piles():
            for place in (0, 1, 5, 99):
                check_refused(self, NoPile, opened, thing, place)

    def test_no_pile_is_told_ahead_of_no_move(self):
        for thing in samples.no_piles():
            for place in (True, -1, 100, None, "1", samples.Prickly()):
                check_refused(self, NoPile, opened, thing, place)

    def test_the_answer_is_a_tuple_of_integers(self):
        for pile, place in (((1,), 1), ((2,), 2), ((0, 50, 50), 50)):
            told = opened(pile, place)
            self.assertIs(type(told), tuple)
            self.assertTrue(all(type(entry) is int for entry in told))


class TestByMovesAlone(SumsCase):
    def test_nothing_asks_what_marks_are_worth(self):
        pairs = [(one, other) for one in ROWS for other in ROWS if worth_told(one) >= worth_told(other)]
        wrong = AssertionError("asked what marks are worth")
        with mock.patch.object(piles, "mark_worths", side_effect=wrong):
            with mock.patch.object(numbers, "mark_worths", side_effect=wrong):
                for one, other in pairs:
                    self.check_row(minus(one, other), worth_told(one) - worth_told(other))
                    if worth_told(one) + worth_told(other) <= GREATEST_NUMBER:
                        self.check_row(plus(one, other), worth_told(one) + worth_told(other))
                    if worth_told(one) * worth_told(other) <= GREATEST_NUMBER:
                        self.check_row(times(one, other), worth_told(one) * worth_told(other))
                self.assertEqual(moved((0, 2, 5), 3), (3, 5, 8))
                self.assertEqual(opened((5,), 5), (3, 4))

    def test_a_product_is_made_of_sums_alone(self):
        for one, other in LONG_PRODUCTS:
            row = row_told(one)
            known = [(), row]

            def watched(here, more):
                self.assertIn(here, known)
                self.assertIn(more, known)
                known.append(laid(here, more))
                return known[-1]

            with mock.patch.object(sums, "laid", side_effect=watched):
                self.assertIn(times(row, row_told(other)), known)


class TestNothingIsChanged(unittest.TestCase):
    def test_things_handed_in_stay_as_they_were(self):
        for thing in ([2, 0], (0, [2]), {3: [1]}):
            before = repr(thing)
            for function in (plus, minus, times):
                check_refused(self, NoRow, function, thing, (0,))
                check_refused(self, NoRow, function, (0,), thing)
            check_refused(self, NoRow, moved, thing)
            check_refused(self, NoPile, opened, thing, 2)
            self.assertEqual(repr(thing), before)

    def test_a_refusal_changes_nothing(self):
        one, other = (0, 2, 98), (1, 3, 99)
        check_refused(self, Below, minus, one, other)
        check_refused(self, TooGreat, plus, one, other)
        check_refused(self, TooGreat, times, one, other)
        self.assertEqual((one, other), ((0, 2, 98), (1, 3, 99)))
        self.assertEqual(minus(other, one), row_told(worth_told(other) - worth_told(one)))

    def test_asking_again_tells_the_same(self):
        for function in (plus, minus, times):
            self.assertEqual(function((0, 5, 9), (2, 4)), function((0, 5, 9), (2, 4)))


if __name__ == "__main__":
    unittest.main()
