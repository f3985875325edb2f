"""Points [6], [4] and [5]: papers, and the rows at which they end."""

import unittest
from unittest import mock

from loosemarks import settling
from loosemarks.checker import is_right
from loosemarks.errors import NoPile, TooGreat
from loosemarks.moves import coming, weight
from loosemarks.settling import paper_of, settled
from tests import samples
from tests.samples import (
    Watched, check_refused, moves_there, moves_to_make, pile_behind, picks, row_told, worth_told,
)


def walked(pile, choose):
    """The paper and the row that a choice leads to, by the document alone."""
    paper = []
    while moves := moves_to_make(pile):
        paper.append(moves[choose(moves)])
        pile = pile_behind(pile, paper[-1])
    return paper, pile


def all_choices(pile):
    """Each paper of a pile, by every choice that there is."""
    moves = moves_to_make(pile)
    if not moves:
        return [[]]
    return [[move] + rest for move in moves for rest in all_choices(pile_behind(pile, move))]


class TestSamples(unittest.TestCase):
    def test_what_the_piles_are_worth(self):
        for pile in samples.piles_of_the_greatest_worth():
            self.assertEqual(worth_told(pile), 927372692193078999175)
        for pile in samples.piles_that_fit():
            self.assertLessEqual(worth_told(pile), 927372692193078999175)
        for pile in samples.piles_too_great():
            self.assertGreaterEqual(worth_told(pile), 927372692193078999176)


class TestPaperOf(unittest.TestCase):
    def test_rows_have_an_empty_paper(self):
        for row in samples.rows() + [samples.GREATEST_ROW]:
            self.assertEqual(paper_of(row), [])
            self.assertEqual(paper_of(row, None), [])
            self.assertEqual(paper_of(row, lambda moves: 0), [])

    def test_the_first_move_each_time(self):
        self.assertEqual(paper_of((0, 0)), [("part", 0)])
        self.assertEqual(paper_of((0, 1)), [("join", 0)])
        self.assertEqual(paper_of((1, 1)), [("part", 1)])
        self.assertEqual(paper_of((0, 0, 1)), [("join", 0)])
        self.assertEqual(paper_of((3, 3)), [("part", 3)])
        self.assertEqual(paper_of((0, 0, 0)), [("part", 0), ("join", 0)])
        self.assertEqual(paper_of((2, 2, 2)), [("part", 2), ("join", 2)])
        self.assertEqual(paper_of((0, 1, 3, 3)), [("join", 0), ("join", 2), ("join", 3)])

    def test_the_last_move_each_time(self):
        def last(moves):
            return len(moves) - 1

        self.assertEqual(paper_of((0, 0, 1), last), [("part", 0), ("part", 1)])
        self.assertEqual(
            paper_of((0, 1, 3, 3), last),
            [("part", 3), ("part", 1), ("part", 0), ("join", 1), ("join", 3)],
        )

    def test_left_out_and_none_are_the_first(self):
        for pile in samples.small_piles_that_fit() + samples.piles_that_fit():
            first, _ = walked(pile, lambda moves: 0)
            self.assertEqual(paper_of(pile), first)
            self.assertEqual(paper_of(pile, None), first)
            self.assertEqual(paper_of(pile, lambda moves: 0), first)

    def test_each_pick_is_followed(self):
        for pile in samples.piles_that_fit():
            for choose in picks()[1:]:
                pick = Watched(self, pile, choose)
                self.assertEqual(paper_of(pile, pick), pick.chosen)
                self.assertEqual(moves_to_make(pick.pile), [])
                self.assertLessEqual(len(pick.chosen), weight(pile))

    def test_each_pick_is_followed_from_small_piles(self):
        for pile in samples.small_piles_that_fit():
            for choose in picks()[1:]:
                pick = Watched(self, pile, choose)
                self.assertEqual(paper_of(pile, pick), pick.chosen)
                self.assertEqual(moves_to_make(pick.pile), [])

    def test_pick_is_asked_where_there_is_but_one_move(self):
        pick = Watched(self, (0, 0), lambda moves: 0)
        paper_of((0, 0), pick)
        self.assertEqual(pick.chosen, [("part", 0)])

    def test_pick_is_not_asked_where_there_is_no_move(self):
        def unasked(moves):
            self.fail("asked")

        for row in samples.rows():
            self.assertEqual(paper_of(row, unasked), [])
            self.assertEqual(settled(row, unasked), row)
        for pile in ((98, 99), (99, 99), (0, 98, 99), (99,) * 240):
            check_refused(self, TooGreat, paper_of, pile, unasked)
            check_refused(self, TooGreat, settled, pile, unasked)

    def test_a_pick_that_says_it_is_false(self):
        asked = []

        class Last:
            def __bool__(self):
                return False

            def __len__(self):
                return 0

            def __call__(self, moves):
                asked.append(moves)
                return len(moves) - 1

        self.assertEqual(paper_of((0, 0, 1), Last()), [("part", 0), ("part", 1)])
        self.assertEqual(len(asked), 2)
        self.assertEqual(settled((0, 0, 1), Last()), (0, 2))
        self.assertEqual(len(asked), 4)

    def test_a_very_long_paper(self):
        pile = (88,) * 240
        paper = paper_of(pile, lambda moves: len(moves) - 1)
        self.assertGreater(len(paper), 10000)
        self.assertLessEqual(len(paper), weight(pile))
        for move in paper:
            pile = pile_behind(pile, move)
        self.assertEqual(pile, row_told(worth_told(pile)))

    def test_what_pick_raises_is_passed_on(self):
        def refuse(moves):
            raise KeyError("mine")

        for function in (paper_of, settled):
            with self.assertRaises(KeyError):
                function((0, 0), refuse)

    def test_a_pick_that_asks_for_a_paper_itself(self):
        def asking(moves):
            paper_of((0, 0, 1, 1, 5, 5), lambda others: len(others) - 1)
            settled((3, 3, 3))
            return len(moves) - 1

        self.assertEqual(paper_of((0, 0, 1), asking), [("part", 0), ("part", 1)])
        self.assertEqual(settled((0, 0, 1), asking), (0, 2))


class TestSettled(unittest.TestCase):
    def test_few_marks(self):
        self.assertEqual(settled(()), ())
        self.assertEqual(settled((0,)), (0,))
        self.assertEqual(settled((0, 0)), (1,))
        self.assertEqual(settled((0, 1)), (2,))
        self.assertEqual(settled((1, 1)), (0, 2))
        self.assertEqual(settled((0, 0, 1)), (0, 2))
        self.assertEqual(settled((0, 1, 3, 3)), (5,))
        self.assertEqual(settled((2, 2, 2)), (0, 4))

    def test_rows_stay(self):
        for row in samples.rows() + [samples.GREATEST_ROW]:
            for pick in picks():
                self.assertEqual(settled(row, pick), row)

    def test_the_one_row_of_the_worth_by_each_choice(self):
        for pile in samples.small_piles_that_fit():
            if len(pile) < 4:
                for paper in all_choices(pile):
                    left = list(paper)
                    row = settled(pile, lambda moves: moves.index(left.pop(0)))
                    self.assertEqual(row, row_told(worth_told(pile)))
                    self.assertEqual(left, [])

    def test_the_one_row_of_the_worth_by_each_pick(self):
        for pile in samples.small_piles_that_fit():
            for pick in picks():
                self.assertEqual(settled(pile, pick), row_told(worth_told(pile)))

    def test_great_piles(self):
        for pile in samples.piles_that_fit():
            row = row_told(worth_told(pile))
            for pick in picks():
                self.assertEqual(settled(pile, pick), row)

    def test_the_greatest_row(self):
        for pile in samples.piles_of_the_greatest_worth():
            self.assertEqual(settled(pile), samples.GREATEST_ROW)
            self.assertEqual(settled(pile, lambda moves: len(moves) - 1), samples.GREATEST_ROW)

    def test_240_marks(self):
        self.assertEqual(settled((0,) * 240), row_told(240))
        self.assertEqual(settled((1,) * 240), row_told(480))

    def test_the_answer_is_a_tuple_of_integers(self):
        for pile in ((), (0,), (4, 4), (0, 0, 1)):
            self.assertIs(type(settled(pile)), tuple)
            self.assertTrue(all(type(place) is int for place in settled(pile)))

    def test_pick_is_asked_move_by_move(self):
        for pile in ((0, 0, 1), (0,) * 12, (5, 5, 5, 6, 6, 7), (95, 96, 96, 97)):
            for choose in picks()[1:]:
                pick = Watched(self, pile, choose)
                self.assertEqual(settled(pile, pick), pick.pile)
                self.assertEqual(pick.chosen, walked(pile, choose)[0])


class TestSettledWithoutPick(unittest.TestCase):
    def check_moves(self, pile):
        """Check that each move that is made can be made where it is, and tell the moves and the pile behind them."""
        moves = []
        reached = pile

        def watched(move):
            nonlocal reached
            self.assertIn(move, moves_there(reached))
            moves.append(move)
            if move in moves_to_make(reached):
                reached = pile_behind(reached, move)
            return coming(move)

        with mock.patch.object(settling, "coming", side_effect=watched):
            if worth_told(pile) > samples.GREATEST_NUMBER:
                check_refused(self, TooGreat, settled, pile)
            else:
                self.assertEqual(settled(pile), reached)
        return moves, reached

    def test_it_is_made_by_moves_alone(self):
        for pile in samples.small_piles_that_fit() + samples.piles_that_fit() + samples.rows():
            moves, reached = self.check_moves(pile)
            self.assertEqual(moves_to_make(reached), [])
            self.assertEqual(reached, row_told(worth_told(pile)))
            self.assertLessEqual(len(moves), weight(pile))

    def test_too_great_comes_of_a_move_that_cannot_be_made(self):
        for pile in samples.piles_too_great():
            moves, reached = self.check_moves(pile)
            self.assertNotIn(moves[-1], moves_to_make(reached))
            self.assertLessEqual(len(moves), weight(pile))

    def test_the_row_at_which_the_paper_ends(self):
        for pile in samples.small_piles_that_fit() + samples.piles_that_fit():
            self.assertIs(is_right(pile, paper_of(pile), settled(pile)), True)
            self.assertEqual(settled(pile, None), settled(pile))

    def test_piles_of_each_length(self):
        for many in range(241):
            pile = tuple(sorted(turn * turn * 31 // 7 % 88 for turn in range(many)))
            self.assertEqual(settled(pile), row_told(worth_told(pile)))


class TestTooGreat(unittest.TestCase):
    def test_sooner_or_later(self):
        for pile in samples.piles_too_great():
            for pick in picks():
                check_refused(self, TooGreat, paper_of, pile, pick)
                check_refused(self, TooGreat, settled, pile, pick)
            check_refused(self, TooGreat, paper_of, pile)
            check_refused(self, TooGreat, settled, pile)

    def test_of_no_other_pile(self):
        for pile in ((98, 98), (97, 98), (0, 97, 98), tuple(range(99)), samples.GREATEST_ROW):
            for pick in picks():
                self.assertEqual(settled(pile, pick), row_told(worth_told(pile)))

    def test_the_least_that_is_too_great_and_the_greatest_that_is_not(self):
        self.assertEqual(settled(tuple(range(99))), row_told(927372692193078999174))
        self.assertEqual(settled((0,) + tuple(range(99))), row_told(927372692193078999175))
        check_refused(self, TooGreat, settled, (0, 0) + tuple(range(99)))
        check_refused(self, TooGreat, settled, (0,) + samples.GREATEST_ROW)
        check_refused(self, TooGreat, paper_of, (98, 99))

    def test_small_piles_at_the_highest_places(self):
        for pile in samples.small_piles():
            if worth_told(pile) > samples.GREATEST_NUMBER:
                check_refused(self, TooGreat, paper_of, pile)
                check_refused(self, TooGreat, settled, pile)
                check_refused(self, TooGreat, settled, pile, lambda moves: len(moves) - 1)

    def test_pick_is_handed_only_moves_that_can_be_made(self):
        for pile in samples.piles_too_great():
            for choose in picks()[1:3]:
                pick = Watched(self, pile, choose)
                check_refused(self, TooGreat, paper_of, pile, pick)
                self.assertEqual(moves_to_make(pick.pile), [])
        told = []
        check_refused(self, TooGreat, paper_of, (0, 0, 98, 99), lambda moves: told.append(moves) or 0)
        self.assertEqual(told, [[("part", 0)]])


class TestWrongInputs(unittest.TestCase):
    def test_no_piles(self):
        def unasked(moves):
            self.fail("asked")

        for thing in samples.no_piles():
            for function in (paper_of, settled):
                check_refused(self, NoPile, function, thing)
                check_refused(self, NoPile, function, thing, None)
                check_refused(self, NoPile, function, thing, unasked)

    def test_no_pile_is_told_ahead_of_too_great(self):
        for thing in ([98, 99], (99, 98), (99,) * 241, [99, 99], (True, 98, 99), (98, 99, 100)):
            check_refused(self, NoPile, paper_of, thing)
            check_refused(self, NoPile, settled, thing)


class TestOwn(unittest.TestCase):
    def test_the_paper_is_the_askers_own(self):
        for pile in ((), (0, 0), (0, 0, 1), (5, 5, 6, 6)):
            first = paper_of(pile)
            wanted = list(first)
            first.append(("join", 7))
            first.reverse()
            self.assertEqual(paper_of(pile), wanted)
            self.assertIsNot(paper_of(pile), paper_of(pile))

    def test_the_list_that_pick_is_handed_is_its_own(self):
        def spoiling(moves):
            place = len(moves) // 2
            moves.reverse()
            moves.clear()
            moves.append(("join", 99))
            return place

        for pile in ((0, 0, 1), (0, 1, 3, 3), (5,) * 9, (0, 1, 2, 3, 4, 5)):
            paper, row = walked(pile, lambda moves: len(moves) // 2)
            self.assertEqual(paper_of(pile, spoiling), paper)
            self.assertEqual(settled(pile, spoiling), row)

    def test_a_list_that_pick_keeps_does_not_change_later(self):
        kept, copies = [], []

        def keeping(moves):
            kept.append(moves)
            copies.append(list(moves))
            return 0

        paper = paper_of((0, 0, 1, 1, 2, 2), keeping)
        paper.clear()
        self.assertEqual(kept, copies)
        self.assertEqual(len({id(moves) for moves in kept}), len(kept))

    def test_nothing_handed_in_is_changed(self):
        pile = (0, 0, 1, 5, 5)
        paper_of(pile)
        settled(pile, lambda moves: len(moves) - 1)
        self.assertEqual(pile, (0, 0, 1, 5, 5))
        thing = [1, 0, 0]
        check_refused(self, NoPile, settled, thing)
        check_refused(self, NoPile, paper_of, thing)
        self.assertEqual(thing, [1, 0, 0])

    def test_asking_again_tells_the_same(self):
        for pile in ((0, 0, 1), (5,) * 12, (97, 97, 97)):
            self.assertEqual(paper_of(pile), paper_of(pile))
            self.assertEqual(settled(pile), settled(pile))


if __name__ == "__main__":
    unittest.main()
