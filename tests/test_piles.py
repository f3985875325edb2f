"""Points [1] and [2]: places, worth, piles and rows."""

import unittest

from loosemarks.errors import NoPile, NoRow
from loosemarks.piles import is_pile, is_row, need_pile, need_row, pile_of, worth
from tests import samples
from tests.samples import check_refused


class TestIsPile(unittest.TestCase):
    def test_piles(self):
        for pile in samples.rows() + samples.piles_that_are_no_rows() + samples.great_piles():
            with self.subTest(pile):
                self.assertIs(is_pile(pile), True)

    def test_each_place_alone(self):
        for place in range(100):
            self.assertIs(is_pile((place,)), True)
            self.assertIs(is_pile((place, place)), True)

    def test_small_piles(self):
        for pile in samples.small_piles():
            self.assertIs(is_pile(pile), True)

    def test_at_most_240_marks(self):
        for place in (0, 1, 99):
            self.assertIs(is_pile((place,) * 239), True)
            self.assertIs(is_pile((place,) * 240), True)
            self.assertIs(is_pile((place,) * 241), False)

    def test_no_marks(self):
        self.assertIs(is_pile(()), True)

    def test_things_that_are_no_tuple(self):
        for thing in samples.no_tuples():
            self.assertIs(is_pile(thing), False)

    def test_wrong_entries(self):
        for entry in samples.no_places():
            self.assertIs(is_pile((entry,)), False)
            self.assertIs(is_pile((0, entry)), False)
            self.assertIs(is_pile((entry, 99)), False)
            self.assertIs(is_pile((0, entry, 99)), False)

    def test_true_and_false_are_no_places(self):
        for thing in ((True,), (False,), (0, True), (False, 1), (True, 1), (1, True), (0, False)):
            self.assertIs(is_pile(thing), False)

    def test_falling_tuples(self):
        for thing in samples.falling_tuples():
            with self.subTest(thing):
                self.assertIs(is_pile(thing), False)

    def test_too_long_tuples(self):
        for thing in samples.too_long_tuples():
            self.assertIs(is_pile(thing), False)


class TestIsRow(unittest.TestCase):
    def test_rows(self):
        for row in samples.rows():
            with self.subTest(row):
                self.assertIs(is_row(row), True)

    def test_each_place_alone(self):
        for place in range(100):
            self.assertIs(is_row((place,)), True)

    def test_piles_that_are_no_rows(self):
        for pile in samples.piles_that_are_no_rows():
            with self.subTest(pile):
                self.assertIs(is_row(pile), False)

    def test_each_double_and_each_neighbour(self):
        for place in range(100):
            self.assertIs(is_row((place, place)), False)
        for place in range(99):
            self.assertIs(is_row((place, place + 1)), False)
        for place in range(98):
            self.assertIs(is_row((place, place + 2)), True)

    def test_small_piles(self):
        for pile in samples.small_piles():
            apart = all(a == b or abs(pile[a] - pile[b]) >= 2 for a in range(len(pile)) for b in range(len(pile)))
            self.assertIs(is_row(pile), apart)

    def test_no_piles(self):
        for thing in samples.no_piles():
            self.assertIs(is_row(thing), False)


class TestNeed(unittest.TestCase):
    def test_need_pile_lets_piles_pass(self):
        for pile in samples.rows() + samples.piles_that_are_no_rows() + samples.great_piles():
            self.assertIsNone(need_pile(pile))

    def test_need_pile_refuses_the_rest(self):
        for thing in samples.no_piles():
            check_refused(self, NoPile, need_pile, thing)

    def test_need_row_lets_rows_pass(self):
        for row in samples.rows():
            self.assertIsNone(need_row(row))

    def test_need_row_refuses_piles_that_are_no_rows(self):
        for pile in samples.piles_that_are_no_rows():
            check_refused(self, NoRow, need_row, pile)

    def test_need_row_refuses_what_is_no_pile(self):
        for thing in samples.no_piles():
            check_refused(self, NoRow, need_row, thing)


class TestPileOf(unittest.TestCase):
    def test_any_order(self):
        self.assertEqual(pile_of([3, 0, 99, 3, 1]), (0, 1, 3, 3, 99))
        self.assertEqual(pile_of([5, 4, 3]), (3, 4, 5))
        self.assertEqual(pile_of([3, 4, 5]), (3, 4, 5))
        self.assertEqual(pile_of([10, 9, 100 - 1]), (9, 10, 99))

    def test_the_same_place_several_times(self):
        self.assertEqual(pile_of([7, 7, 7]), (7, 7, 7))
        self.assertEqual(pile_of([0, 7, 0, 7, 0]), (0, 0, 0, 7, 7))

    def test_edges(self):
        self.assertEqual(pile_of([]), ())
        self.assertEqual(pile_of([0]), (0,))
        self.assertEqual(pile_of([99]), (99,))
        self.assertEqual(pile_of([99, 0]), (0, 99))

    def test_the_answer_is_a_tuple(self):
        for places in ([], [0], [2, 1]):
            self.assertIs(type(pile_of(places)), tuple)

    def test_at_most_240_marks(self):
        self.assertEqual(pile_of([4] * 240), (4,) * 240)
        self.assertEqual(pile_of([9] * 120 + [4] * 120), (4,) * 120 + (9,) * 120)
        for places in ([4] * 241, [9] * 121 + [4] * 120, list(range(100)) * 3):
            check_refused(self, NoPile, pile_of, places)

    def test_each_pile_from_its_places_turned_round(self):
        for pile in samples.small_piles() + samples.great_piles():
            self.assertEqual(pile_of(list(reversed(pile))), pile)

    def test_wrong_entries(self):
        for entry in samples.no_places():
            for places in ([entry], [entry, 0], [0, entry], [5, entry, 3]):
                check_refused(self, NoPile, pile_of, places)

    def test_what_is_no_list(self):
        for thing in (None, 3, "12", b"12", (), (0, 2), {}, {0: 1}, {0, 2}, range(3), object(), samples.Prickly()):
            check_refused(self, NoPile, pile_of, thing)

    def test_the_list_is_not_changed(self):
        places = [3, 0, 99, 3, 1]
        pile_of(places)
        self.assertEqual(places, [3, 0, 99, 3, 1])
        refused = [3, 0, 100, "a", 1]
        check_refused(self, NoPile, pile_of, refused)
        self.assertEqual(refused, [3, 0, 100, "a", 1])

    def test_a_list_changed_later_is_told_anew(self):
        places = [3, 0]
        first = pile_of(places)
        places.append(1)
        self.assertEqual(pile_of(places), (0, 1, 3))
        self.assertEqual(first, (0, 3))


class TestWorth(unittest.TestCase):
    def test_each_place(self):
        below, here = 1, 1
        for place in range(100):
            with self.subTest(place):
                self.assertEqual(worth((place,)), here)
            below, here = here, below + here

    def test_places_that_the_document_names(self):
        self.assertEqual([worth((place,)) for place in range(6)], [1, 2, 3, 5, 8, 13])
        self.assertEqual(worth((99,)), samples.GREATEST_WORTH)
        # Place 100 is none, but the document tells what a mark there would be worth.
        self.assertEqual(worth((98, 99)), 927372692193078999176)

    def test_marks_together(self):
        self.assertEqual(worth(()), 0)
        self.assertEqual(worth((0, 0)), 2)
        self.assertEqual(worth((0, 1, 2, 3)), 11)
        self.assertEqual(worth((0, 2, 2, 5)), 20)
        self.assertEqual(worth(tuple(range(1, 100, 2))), 927372692193078999175)

    def test_many_marks(self):
        self.assertEqual(worth((0,) * 240), 240)
        self.assertEqual(worth((1,) * 240), 480)
        self.assertEqual(worth((99,) * 240), 240 * samples.GREATEST_WORTH)

    def test_the_answer_is_an_integer(self):
        for pile in ((), (0,), (4, 4)):
            self.assertIs(type(worth(pile)), int)

    def test_no_piles(self):
        for thing in samples.no_piles():
            check_refused(self, NoPile, worth, thing)


class TestNothingIsChanged(unittest.TestCase):
    def test_things_handed_in_stay_as_they_were(self):
        inner = [2, 1]
        for thing in ([3, 1, 2], (0, inner), {3: [1]}, (inner,)):
            before = repr(thing)
            self.assertIs(is_pile(thing), False)
            self.assertIs(is_row(thing), False)
            check_refused(self, NoPile, need_pile, thing)
            check_refused(self, NoRow, need_row, thing)
            check_refused(self, NoPile, worth, thing)
            self.assertEqual(repr(thing), before)

    def test_asking_again_tells_the_same(self):
        for pile in ((), (0, 0, 1), (3, 5, 99), (99,) * 240):
            self.assertEqual([worth(pile), is_row(pile)], [worth(pile), is_row(pile)])


if __name__ == "__main__":
    unittest.main()
