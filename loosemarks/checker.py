"""The checker: whether a list is a paper of a pile. It knows moves alone, not how a paper is found."""

from loosemarks.errors import NoMove, TooGreat
from loosemarks.moves import done, moves_of
from loosemarks.piles import is_pile, need_pile


def followed(pile, paper):
    """Make the moves of the list: tell where the first one fails, or None, and the pile reached."""
    for at, entry in enumerate(paper):
        try:
            pile = done(pile, entry)
        except (NoMove, TooGreat):
            return at, pile
    return None, pile


def fails_at(pile, paper):
    """Tell the place of the first entry that is no move that can be made there, None where each one is."""
    need_pile(pile)
    at, _ = followed(pile, paper)
    return at


def is_right(pile, paper, row):
    """Tell whether the paper, which may be anything, is one of the pile and ends at the row, likewise."""
    need_pile(pile)
    # What is no pile might be equal to one all the same: (True,) is to (1,).
    if type(paper) != list or not is_pile(row):
        return False
    at, end = followed(pile, paper)
    return at is None and moves_of(end) == [] and row == end
