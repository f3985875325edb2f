"""Points [6], [3] and [4]: the checker, which looks at a pile, a paper and a row."""

import ast
import unittest
from pathlib import Path

from loosemarks import checker
from loosemarks.checker import fails_at, is_right
from loosemarks.errors import NoPile
from loosemarks.settling import paper_of, settled
from tests import samples
from tests.samples import MOVES, check_refused, moves_to_make, no_moves, pile_behind, picks, row_told, worth_told

# A pile, one of its papers, and the row at which all of them end.
PILE = (0, 1, 3, 3, 8, 8)
PAPER = [("join", 0), ("join", 2), ("join", 3), ("part", 8), ("join", 5)]
ROW = (7, 9)

# Piles whose papers are altered in many ways.
ALTERED = [(), (0, 0, 1), (0, 1, 3, 3), (0, 0, 0, 1, 1, 2), (5, 5, 6, 6), (94, 95, 95, 96), (97, 98), (98, 98)]


def failing(pile, paper):
    """The place of the first entry that can't be made, None where there is none, and the last pile."""
    for at, move in enumerate(paper):
        if move not in moves_to_make(pile):
            return at, pile
        pile = pile_behind(pile, move)
    return None, pile


def right(pile, paper, row):
    at, end = failing(pile, paper)
    return at is None and moves_to_make(end) == [] and worth_told(end) <= samples.GREATEST_NUMBER and end == row


def left_out(paper):
    return [paper[:at] + paper[at + 1:] for at in range(len(paper))]


def cut(paper):
    return [paper[:at] for at in range(len(paper))]


def put_in(paper, entry):
    return [paper[:at] + [entry] + paper[at:] for at in range(len(paper) + 1)]


def put_instead(paper, entry):
    return [paper[:at] + [entry] + paper[at + 1:] for at in range(len(paper))]


def exchanged(paper):
    papers = []
    for one in range(len(paper)):
        for other in range(one):
            turned = list(paper)
            turned[one], turned[other] = paper[other], paper[one]
            papers.append(turned)
    return papers


def altered(paper):
    """Papers that are told by moves but altered in one thing; some of them may be right all the same."""
    papers = left_out(paper) + cut(paper) + exchanged(paper) + [paper[::-1], paper + paper]
    for move in [(word, place) for word in ("join", "part") for place in (0, 1, 2, 3, 4, 95, 96, 97, 98)]:
        papers += put_in(paper, move) + put_instead(paper, move)
    return papers


def other_rows(row):
    more = row_told(worth_told(row) + 1) if row != samples.GREATEST_ROW else row[1:]
    less = row_told(worth_told(row) - 1) if row else (0,)
    return [more, less, row[1:] if row else (99,), row[:-1] if row else (5, 7), (50, 52, 54)]


def no_rows_like(row):
    """Things that are much like the row but aren't it."""
    class Under(tuple):
        pass

    return [list(row), row + (99,) * (241 - len(row)), (row,), str(row), Under(row), dict.fromkeys(row), set(row)]


class TestIsRight(unittest.TestCase):
    def test_a_paper(self):
        self.assertIs(is_right(PILE, PAPER, ROW), True)
        self.assertIs(is_right((0, 0, 1), [("join", 0)], (0, 2)), True)
        self.assertIs(is_right((0, 0, 1), [("part", 0), ("part", 1)], (0, 2)), True)

    def test_rows_with_an_empty_paper(self):
        for row in samples.rows() + [samples.GREATEST_ROW]:
            self.assertIs(is_right(row, [], row), True)
            for move in (("join", 0), ("part", 0), ("join", 98), None):
                self.assertIs(is_right(row, [move], row), False)

    def test_the_empty_pile(self):
        self.assertIs(is_right((), [], ()), True)
        self.assertIs(is_right((), [], (0,)), False)
        self.assertIs(is_right((), [("part", 0)], ()), False)
        self.assertIs(is_right((), [()], ()), False)
        self.assertIs(is_right((), (), ()), False)
        self.assertIs(is_right((), [], []), False)

    def test_papers_that_are_found(self):
        for pile in samples.small_piles_that_fit() + samples.piles_that_fit():
            for pick in picks()[1:4]:
                self.assertIs(is_right(pile, paper_of(pile, pick), settled(pile)), True)

    def test_other_rows(self):
        for pile in samples.small_piles_that_fit() + samples.piles_that_fit():
            row = settled(pile)
            for other in other_rows(row):
                if other != row:
                    self.assertIs(is_right(pile, paper_of(pile), other), False)

    def test_the_pile_at_the_end_is_no_row(self):
        self.assertIs(is_right((0, 0), [], (0, 0)), False)
        self.assertIs(is_right((0, 0), [], (1,)), False)
        self.assertIs(is_right((0, 0, 0), [("part", 0)], (0, 1)), False)
        for at in range(len(PAPER)):
            _, end = failing(PILE, PAPER[:at])
            self.assertIs(is_right(PILE, PAPER[:at], end), False)
            self.assertIs(is_right(PILE, PAPER[:at], ROW), False)

    def test_an_entry_left_out(self):
        for paper in left_out(PAPER):
            self.assertIs(is_right(PILE, paper, ROW), False)

    def test_an_entry_put_in(self):
        for move in MOVES:
            for paper in put_in(PAPER, move):
                self.assertIs(is_right(PILE, paper, ROW), right(PILE, paper, ROW))
        self.assertIs(is_right(PILE, PAPER + [("join", 7)], ROW), False)
        self.assertIs(is_right(PILE, PAPER + PAPER[-1:], ROW), False)

    def test_entries_exchanged(self):
        self.assertIs(is_right(PILE, [PAPER[1], PAPER[0], *PAPER[2:]], ROW), False)
        self.assertIs(is_right(PILE, [*PAPER[:3], PAPER[4], PAPER[3]], ROW), False)
        self.assertIs(is_right(PILE, [PAPER[3], *PAPER[:3], PAPER[4]], ROW), True)
        self.assertIs(is_right((0, 1, 50, 51), [("join", 0), ("join", 50)], (2, 52)), True)
        self.assertIs(is_right((0, 1, 50, 51), [("join", 50), ("join", 0)], (2, 52)), True)
        self.assertIs(is_right((0, 1, 3), [("join", 2), ("join", 0)], (4,)), False)
        self.assertIs(is_right((0, 1, 3), [("join", 0), ("join", 2)], (4,)), True)

    def test_another_place_or_word(self):
        for move in MOVES:
            for at, paper in enumerate(put_instead(PAPER, move)):
                self.assertIs(is_right(PILE, paper, ROW), right(PILE, paper, ROW))
        self.assertIs(is_right((0, 1), [("join", 1)], (2,)), False)
        self.assertIs(is_right((0, 1), [("part", 0)], (2,)), False)
        self.assertIs(is_right((0, 1), [("part", 1)], (2,)), False)
        self.assertIs(is_right((0, 0), [("join", 0)], (1,)), False)

    def test_altered_papers(self):
        for pile in ALTERED:
            for pick in picks()[1:4]:
                row = settled(pile)
                for paper in altered(paper_of(pile, pick)):
                    self.assertIs(is_right(pile, paper, row), right(pile, paper, row))

    def test_entries_that_are_no_moves(self):
        for thing in no_moves():
            for paper in put_in(PAPER, thing) + put_instead(PAPER, thing):
                self.assertIs(is_right(PILE, paper, ROW), False)

    def test_entries_that_are_much_like_moves(self):
        class Under(tuple):
            pass

        for at, move in enumerate(PAPER):
            word, place = move
            for thing in (
                list(move), (place, word), move + (0,), str(move), (word.upper(), place), [move], Under(move),
            ):
                paper = PAPER[:at] + [thing] + PAPER[at + 1:]
                self.assertIs(is_right(PILE, paper, ROW), False)
        self.assertIs(is_right((0, 1), [("join", False)], (2,)), False)
        self.assertIs(is_right((1, 1), [("part", True)], (0, 2)), False)

    def test_a_paper_that_is_no_list(self):
        for thing in samples.no_tuples() + samples.tuples_of_wrong_entries():
            if type(thing) is not list:
                self.assertIs(is_right((0, 2), thing, (0, 2)), False)
                self.assertIs(is_right((0, 1), thing, (2,)), False)
        self.assertIs(is_right(PILE, tuple(PAPER), ROW), False)
        self.assertIs(is_right(PILE, iter(PAPER), ROW), False)
        self.assertIs(is_right(PILE, dict(enumerate(PAPER)), ROW), False)
        self.assertIs(is_right(PILE, str(PAPER), ROW), False)

    def test_a_list_that_holds_itself(self):
        paper = []
        paper.append(paper)
        self.assertIs(is_right((0, 1), paper, (2,)), False)
        self.assertIs(is_right((), paper, ()), False)

    def test_things_that_are_no_row(self):
        for thing in samples.no_piles() + samples.piles_that_are_no_rows():
            self.assertIs(is_right((0, 1), [("join", 0)], thing), False)
            self.assertIs(is_right((), [], thing), False)
        for thing in no_rows_like(ROW):
            self.assertIs(is_right(PILE, PAPER, thing), False)

    def test_true_and_false_are_no_places_of_a_row(self):
        self.assertIs(is_right((1,), [], (True,)), False)
        self.assertIs(is_right((0,), [], (False,)), False)
        self.assertIs(is_right((0, 0), [("part", 0)], (True,)), False)
        self.assertIs(is_right((0, 2), [], (False, 2)), False)

    def test_paper_and_row_both_wrong(self):
        for thing in samples.no_tuples():
            self.assertIs(is_right((0, 1), thing, thing), False)
            self.assertIs(is_right((0, 1), [thing], thing), False)

    def test_piles_that_are_too_great(self):
        self.assertIs(is_right((98, 99), [], (98, 99)), False)
        self.assertIs(is_right((98, 99), [("join", 98)], ()), False)
        self.assertIs(is_right((99, 99), [("part", 99)], (97,)), False)
        for pile in samples.piles_too_great():
            paper, end = [], pile
            while moves := moves_to_make(end):
                paper.append(moves[0])
                end = pile_behind(end, moves[0])
            for row in (end, pile, (), samples.GREATEST_ROW, (99,)):
                self.assertIs(is_right(pile, paper, row), False)
                self.assertIs(is_right(pile, paper + [("join", 98)], row), False)
                self.assertIs(is_right(pile, paper + [("part", 99)], row), False)

    def test_no_piles(self):
        for thing in samples.no_piles():
            check_refused(self, NoPile, is_right, thing, [], ())
            check_refused(self, NoPile, is_right, thing, None, None)
            check_refused(self, NoPile, is_right, thing, [("join", 0)], samples.Prickly())
            check_refused(self, NoPile, is_right, thing, samples.Prickly(), (2,))
        check_refused(self, NoPile, is_right, list(PILE), PAPER, ROW)
        check_refused(self, NoPile, is_right, PILE[::-1], PAPER, ROW)
        check_refused(self, NoPile, is_right, (True,), [], (1,))
        check_refused(self, NoPile, is_right, (0,) * 241, [], ())


class TestFailsAt(unittest.TestCase):
    def test_moves_that_can_be_made(self):
        for many in range(len(PAPER) + 1):
            self.assertIsNone(fails_at(PILE, PAPER[:many]))
        for pile in samples.small_piles_that_fit() + samples.piles_that_fit():
            self.assertIsNone(fails_at(pile, []))
            for pick in picks()[1:4]:
                self.assertIsNone(fails_at(pile, paper_of(pile, pick)))

    def test_a_paper_need_not_come_to_an_end(self):
        self.assertIsNone(fails_at((0, 0, 0), []))
        self.assertIsNone(fails_at((0, 0, 0), [("part", 0)]))
        self.assertIsNone(fails_at((98, 99), []))
        self.assertIsNone(fails_at((0, 0, 98, 99), [("part", 0)]))

    def test_the_first_entry_that_fails(self):
        self.assertEqual(fails_at((), [("join", 0)]), 0)
        self.assertEqual(fails_at((0, 1), [("part", 0)]), 0)
        self.assertEqual(fails_at((0, 1), [("join", 0), ("join", 0)]), 1)
        self.assertEqual(fails_at((0, 1, 3), [("join", 0), ("join", 3), ("join", 2)]), 1)
        self.assertEqual(fails_at((0, 1, 3), [("join", 0), ("join", 2), ("join", 2), None, 5]), 2)
        self.assertIs(type(fails_at((0, 1), [("join", 0), ("join", 0)])), int)

    def test_one_entry_too_many(self):
        for pile in samples.small_piles_that_fit() + samples.piles_that_fit():
            paper = paper_of(pile)
            for thing in (("join", 0), ("part", 0), ("join", 97), None):
                self.assertEqual(fails_at(pile, paper + [thing]), len(paper))

    def test_altered_papers(self):
        for pile in ALTERED:
            for pick in picks()[1:4]:
                for paper in altered(paper_of(pile, pick)):
                    self.assertEqual(fails_at(pile, paper), failing(pile, paper)[0])

    def test_entries_that_are_no_moves(self):
        for thing in no_moves():
            for at, paper in enumerate(put_in(PAPER, thing)):
                self.assertEqual(fails_at(PILE, paper), at)
            for at, paper in enumerate(put_instead(PAPER, thing)):
                self.assertEqual(fails_at(PILE, paper), at)

    def test_moves_above_place_99(self):
        self.assertEqual(fails_at((98, 99), [("join", 98)]), 0)
        self.assertEqual(fails_at((99, 99), [("part", 99)]), 0)
        self.assertEqual(fails_at((0, 1, 98, 99), [("join", 0), ("join", 98)]), 1)
        self.assertEqual(fails_at((97, 98, 99, 99), [("join", 97), ("part", 99)]), 1)
        self.assertIsNone(fails_at((97, 98, 99, 99), [("join", 97)]))

    def test_no_piles(self):
        for thing in samples.no_piles():
            check_refused(self, NoPile, fails_at, thing, [])
            check_refused(self, NoPile, fails_at, thing, [("join", 0)])
            check_refused(self, NoPile, fails_at, thing, [None])


class TestWhatItKnows(unittest.TestCase):
    def test_it_knows_moves_alone(self):
        tree = ast.parse(Path(checker.__file__).read_text())
        used = {node.module for node in ast.walk(tree) if isinstance(node, ast.ImportFrom)}
        self.assertLessEqual(used, {"loosemarks.errors", "loosemarks.moves", "loosemarks.piles"})
        self.assertNotIn("worth", Path(checker.__file__).read_text())

    def test_nothing_handed_in_is_changed(self):
        paper, row = list(PAPER), [7, 9]
        is_right(PILE, paper, ROW)
        is_right(PILE, paper, row)
        fails_at(PILE, paper)
        self.assertEqual((paper, row), (PAPER, [7, 9]))
        odd = [("join", 0), ["join", 2], {"part": [3]}]
        is_right(PILE, odd, odd)
        fails_at(PILE, odd)
        self.assertEqual(odd, [("join", 0), ["join", 2], {"part": [3]}])

    def test_asking_again_tells_the_same(self):
        for _ in range(3):
            self.assertIs(is_right(PILE, PAPER, ROW), True)
            self.assertIs(is_right(PILE, PAPER[1:], ROW), False)
            self.assertIsNone(fails_at(PILE, PAPER))
            self.assertEqual(fails_at(PILE, PAPER[1:]), 0)


if __name__ == "__main__":
    unittest.main()
