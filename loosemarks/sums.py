"""Reckoning with rows, by moves and by opening alone."""

from loosemarks.errors import Below, NoMove, TooGreat
from loosemarks.moves import JOIN, PART, coming, exchanged, going
from loosemarks.numbers import compare
from loosemarks.piles import LAST_PLACE, is_place, need_pile, need_row, pile_of
from loosemarks.settling import laid, settled


def need_rows(one, other):
    """Refuse with NoRow where one of the two is no row."""
    need_row(one)
    need_row(other)


def plus(one, other, pick=None):
    """Tell the row of the sum; pick tells the place of each move in a list of those to choose from."""
    need_rows(one, other)
    return settled(pile_of(list(one) + list(other)), pick)


def closing(place):
    """Tell the move that takes the opening of a mark at the place back."""
    return (PART, 0) if place == 1 else (JOIN, place - 2)


def opened(pile, k):
    """Tell the pile with a mark at place k opened."""
    need_pile(pile)
    if not is_place(k) or k == 0 or k not in pile:
        raise NoMove("only a mark that is there, above place 0, can be opened")
    move = closing(k)
    return exchanged(pile, coming(move), going(move))


def taken_off(row, place):
    """Tell the row that is left where a mark at the place is taken off a row of no less worth."""
    pile = row
    # Marks below the place are worth less in a row than one at it: so there is one at it or above.
    while place not in pile:
        pile = opened(pile, min([high for high in pile if high > place]))
    return settled(exchanged(pile, [place], []))


def minus(one, other):
    """Tell the row of the difference."""
    need_rows(one, other)
    if compare(one, other) < 0:
        raise Below("the difference would be below nought")
    rest = one
    for place in other:
        rest = taken_off(rest, place)
    return rest


def times(one, other):
    """Tell the row of the product."""
    need_rows(one, other)
    total = ()
    below = here = one
    reached = 0
    for place in other:
        # A mark is worth as much as those at the two places below it together; so are its products.
        # Above the other row's last mark they might be too great where the answer isn't.
        while reached < place:
            below, here = here, laid(here, below)
            reached += 1
        total = laid(total, here)
    return total


def moved(row, places=1):
    """Tell the row with each mark so many places up."""
    need_row(row)
    if row and row[-1] + places > LAST_PLACE:
        raise TooGreat("a mark would be moved above place 99")
    return tuple([place + places for place in row])
