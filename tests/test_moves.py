"""Points [3], [4] and [5]: the moves, those that bring too great a mark, and the weight."""

import unittest

from loosemarks.errors import NoMove, NoPile, TooGreat
from loosemarks.moves import done, moves_of, weight
from loosemarks.piles import is_pile, is_row, worth
from tests import samples
from tests.samples import MOVES, check_refused, marks_of, moves_there, no_moves, pile_behind

# A pile in which each of the moves could be made.
FULL = tuple(sorted(list(range(100)) * 2))


class TestMovesOf(unittest.TestCase):
    def test_no_move(self):
        self.assertEqual(moves_of(()), [])
        self.assertEqual(moves_of((0,)), [])
        self.assertEqual(moves_of((0, 2, 4, 99)), [])

    def test_joins(self):
        self.assertEqual(moves_of((0, 1)), [("join", 0)])
        self.assertEqual(moves_of((1, 2)), [("join", 1)])
        self.assertEqual(moves_of((4, 5, 6, 50, 51)), [("join", 4), ("join", 5), ("join", 50)])
        self.assertEqual(moves_of((97, 98)), [("join", 97)])

    def test_parts(self):
        self.assertEqual(moves_of((0, 0)), [("part", 0)])
        self.assertEqual(moves_of((1, 1)), [("part", 1)])
        self.assertEqual(moves_of((7, 7, 20, 20)), [("part", 7), ("part", 20)])

    def test_joins_stand_ahead_of_parts(self):
        self.assertEqual(moves_of((0, 0, 1)), [("join", 0), ("part", 0)])
        self.assertEqual(moves_of((0, 0, 40, 41)), [("join", 40), ("part", 0)])
        self.assertEqual(
            moves_of((2, 2, 3, 3, 9, 10, 12, 12)),
            [("join", 2), ("join", 9), ("part", 2), ("part", 3), ("part", 12)],
        )

    def test_each_move_is_told_once(self):
        self.assertEqual(moves_of((3, 3, 3, 3)), [("part", 3)])
        self.assertEqual(moves_of((3, 3, 3, 4, 4, 4)), [("join", 3), ("part", 3), ("part", 4)])
        self.assertEqual(moves_of((0,) * 240), [("part", 0)])

    def test_marks_above_99_are_told_all_the_same(self):
        self.assertEqual(moves_of((98, 99)), [("join", 98)])
        self.assertEqual(moves_of((99, 99)), [("part", 99)])
        self.assertEqual(moves_of((98, 98, 99, 99)), [("join", 98), ("part", 98), ("part", 99)])
        self.assertEqual(moves_of((99,) * 240), [("part", 99)])

    def test_each_move_alone(self):
        for move in MOVES:
            self.assertEqual(moves_of(tuple(marks_of(move)[0])), [move])

    def test_all_moves_at_once(self):
        self.assertEqual(moves_of(FULL), MOVES)

    def test_small_and_great_piles(self):
        for pile in samples.small_piles() + samples.great_piles():
            self.assertEqual(moves_of(pile), moves_there(pile))

    def test_kinds_of_values(self):
        told = moves_of((0, 0, 1))
        self.assertIs(type(told), list)
        for move in told:
            self.assertIs(type(move), tuple)
            self.assertEqual([type(part) for part in move], [str, int])

    def test_none_can_be_made_of_rows_alone(self):
        for pile in samples.small_piles() + samples.great_piles() + samples.rows():
            self.assertEqual(moves_of(pile) == [], is_row(pile))

    def test_the_list_is_the_askers_own(self):
        for pile in ((), (0, 0, 1), (98, 99), (3, 3)):
            first = moves_of(pile)
            wanted = list(first)
            first.append(("join", 7))
            first.reverse()
            self.assertEqual(moves_of(pile), wanted)
            moves_of(pile).clear()
            self.assertEqual(moves_of(pile), wanted)
            self.assertIsNot(moves_of(pile), moves_of(pile))

    def test_a_list_told_does_not_change_later(self):
        first = moves_of((0, 0, 1))
        moves_of((5, 6, 6))
        done((0, 0, 1), first[0])
        self.assertEqual(first, [("join", 0), ("part", 0)])

    def test_no_piles(self):
        for thing in samples.no_piles():
            check_refused(self, NoPile, moves_of, thing)


class TestDone(unittest.TestCase):
    def test_joins(self):
        self.assertEqual(done((0, 1), ("join", 0)), (2,))
        self.assertEqual(done((1, 2), ("join", 1)), (3,))
        self.assertEqual(done((0, 4, 5, 9), ("join", 4)), (0, 6, 9))
        self.assertEqual(done((4, 5, 6, 6, 7), ("join", 4)), (6, 6, 6, 7))
        self.assertEqual(done((97, 98), ("join", 97)), (99,))

    def test_parts(self):
        self.assertEqual(done((0, 0), ("part", 0)), (1,))
        self.assertEqual(done((1, 1), ("part", 1)), (0, 2))
        self.assertEqual(done((2, 2), ("part", 2)), (0, 3))
        self.assertEqual(done((3, 3), ("part", 3)), (1, 4))
        self.assertEqual(done((1, 8, 8, 9), ("part", 8)), (1, 6, 9, 9))
        self.assertEqual(done((98, 98), ("part", 98)), (96, 99))

    def test_two_marks_go_and_the_others_stay(self):
        self.assertEqual(done((0, 0, 0), ("part", 0)), (0, 1))
        self.assertEqual(done((1, 1, 1, 1), ("part", 1)), (0, 1, 1, 2))
        self.assertEqual(done((5, 5, 5), ("part", 5)), (3, 5, 6))
        self.assertEqual(done((5, 5, 6, 6, 6), ("join", 5)), (5, 6, 6, 7))

    def test_240_marks(self):
        self.assertEqual(done((0,) * 240, ("part", 0)), (0,) * 238 + (1,))
        self.assertEqual(done((1,) * 240, ("part", 1)), (0,) + (1,) * 238 + (2,))
        self.assertEqual(done((50,) * 240, ("part", 50)), (48,) + (50,) * 238 + (51,))

    def test_small_and_great_piles(self):
        for pile in samples.small_piles() + samples.great_piles():
            for move in moves_there(pile):
                if max(marks_of(move)[1]) <= 99:
                    self.assertEqual(done(pile, move), pile_behind(pile, move))

    def test_each_move(self):
        for move in MOVES:
            go, come = marks_of(move)
            if max(come) <= 99:
                self.assertEqual(done(tuple(go), move), tuple(sorted(come)))
                self.assertEqual(done(FULL, move), pile_behind(FULL, move))

    def test_the_answer_is_a_pile(self):
        for pile, move in (((0, 1), ("join", 0)), ((1, 1), ("part", 1)), ((9, 9, 9), ("part", 9))):
            self.assertIs(type(done(pile, move)), tuple)
            self.assertIs(is_pile(done(pile, move)), True)

    def test_no_piles(self):
        for thing in samples.no_piles():
            check_refused(self, NoPile, done, thing, ("join", 0))

    def test_no_pile_is_told_ahead_of_no_move(self):
        for thing in ([0, 1], (1, 0), (0,) * 241, (True, 2), (0, 100), None):
            check_refused(self, NoPile, done, thing, None)
            check_refused(self, NoPile, done, thing, ("join", 50))
            check_refused(self, NoPile, done, thing, ("join", 98))
        check_refused(self, NoPile, done, (99, 98), ("join", 98))
        check_refused(self, NoPile, done, [99, 99], ("part", 99))

    def test_what_is_no_move(self):
        for pile in (FULL, (0, 0, 1, 1, 2, 98, 99, 99), (0,), ()):
            for move in no_moves():
                check_refused(self, NoMove, done, pile, move)

    def test_marks_that_are_not_there(self):
        for pile, move in (
            ((), ("join", 0)), ((), ("part", 0)), ((0,), ("join", 0)), ((1,), ("join", 0)), ((0, 2), ("join", 0)),
            ((0, 0), ("join", 0)), ((0,), ("part", 0)), ((0, 1), ("part", 0)), ((0, 1), ("part", 1)),
            ((0, 1), ("join", 1)), ((5, 7), ("join", 6)), ((5, 6), ("join", 4)), ((5, 6), ("join", 6)),
            ((4, 6), ("part", 5)), ((5, 5), ("part", 4)), ((5, 5), ("part", 6)),
        ):
            with self.subTest(pile, move=move):
                check_refused(self, NoMove, done, pile, move)

    def test_each_move_that_is_not_there(self):
        for pile in ((), (0, 0, 1, 98, 99, 99), (3, 3, 4, 6, 50, 51), (0,) * 240, (99,) * 240):
            for move in MOVES:
                if move not in moves_there(pile):
                    check_refused(self, NoMove, done, pile, move)

    def test_no_move_is_told_ahead_of_too_great(self):
        for pile in ((98,), (99,), (98, 98), (97, 99), (), (0, 1)):
            check_refused(self, NoMove, done, pile, ("join", 98))
        for pile in ((99,), (98, 98), (98, 99), (), (0, 0)):
            check_refused(self, NoMove, done, pile, ("part", 99))

    def test_a_mark_above_place_99(self):
        for pile in ((98, 99), (98, 98, 99, 99), (0, 0, 98, 99), (0, 97, 98, 99), FULL):
            check_refused(self, TooGreat, done, pile, ("join", 98))
        for pile in ((99, 99), (99, 99, 99), (0, 1, 99, 99), (99,) * 240, FULL):
            check_refused(self, TooGreat, done, pile, ("part", 99))

    def test_the_other_moves_can_be_made_beside_it(self):
        self.assertEqual(done((0, 1, 98, 99), ("join", 0)), (2, 98, 99))
        self.assertEqual(done((0, 0, 99, 99), ("part", 0)), (1, 99, 99))
        self.assertEqual(done((97, 98, 99), ("join", 97)), (99, 99))
        self.assertEqual(done((98, 98, 99), ("part", 98)), (96, 99, 99))

    def test_nothing_handed_in_is_changed(self):
        pile, move = (0, 0, 1), ("join", 0)
        done(pile, move)
        self.assertEqual((pile, move), ((0, 0, 1), ("join", 0)))
        thing, wish = [1, 0, 1], ["join", 0]
        check_refused(self, NoPile, done, thing, wish)
        check_refused(self, NoMove, done, pile, wish)
        self.assertEqual((thing, wish), ([1, 0, 1], ["join", 0]))

    def test_asking_again_tells_the_same(self):
        for _ in range(3):
            self.assertEqual(done((0, 0, 1), ("join", 0)), (0, 2))
            self.assertEqual(done((0, 0, 1), ("part", 0)), (1, 1))


class TestWeight(unittest.TestCase):
    def test_each_place(self):
        self.assertEqual(weight((0,)), 3)
        self.assertEqual(weight((1,)), 5)
        for place in range(2, 100):
            self.assertEqual(weight((place,)), 2 * place + 2)

    def test_marks_together(self):
        self.assertEqual(weight(()), 0)
        self.assertEqual(weight((0, 0)), 6)
        self.assertEqual(weight((0, 1, 2)), 14)
        self.assertEqual(weight((1, 1, 1, 99)), 215)

    def test_240_marks(self):
        self.assertEqual(weight((0,) * 240), 720)
        self.assertEqual(weight((1,) * 240), 1200)
        self.assertEqual(weight((99,) * 240), 48000)

    def test_the_answer_is_an_integer(self):
        for pile in ((), (0,), (4, 4)):
            self.assertIs(type(weight(pile)), int)

    def test_no_piles(self):
        for thing in samples.no_piles():
            check_refused(self, NoPile, weight, thing)


class TestWhatMovesKeepAndLower(unittest.TestCase):
    def check_move(self, pile, move):
        behind = done(pile, move)
        self.assertIs(is_pile(behind), True)
        self.assertEqual(worth(behind), worth(pile))
        self.assertLess(weight(behind), weight(pile))
        return behind

    def walk(self, pile, choose):
        """Make moves until none can be made; tell the last pile."""
        most, many = weight(pile), 0
        while moves := moves_of(pile):
            pile = self.check_move(pile, choose(moves))
            many += 1
        self.assertLessEqual(many, most)
        return pile

    def test_each_move(self):
        for move in MOVES:
            go, come = marks_of(move)
            if max(come) <= 99:
                self.check_move(tuple(go), move)
                self.check_move(FULL, move)

    def test_each_way_from_small_piles(self):
        waiting = [pile for pile in samples.small_piles() if worth(pile) <= 60]
        seen = set(waiting)
        while waiting:
            pile = waiting.pop()
            for move in moves_of(pile):
                behind = self.check_move(pile, move)
                if behind not in seen:
                    seen.add(behind)
                    waiting.append(behind)

    def test_whole_ways_from_great_piles(self):
        ways = (lambda moves: moves[0], lambda moves: moves[-1], lambda moves: moves[len(moves) // 2])
        for pile in ((0,) * 240, (1,) * 240, (0,) * 80 + (1,) * 80 + (40,) * 80, (0,) * 160 + tuple(range(80))):
            for choose in ways:
                self.assertIs(is_row(self.walk(pile, choose)), True)


if __name__ == "__main__":
    unittest.main()
