"""The two moves that change a pile, and the weight that they lower."""

from loosemarks.errors import NoMove, TooGreat
from loosemarks.piles import LAST_PLACE, is_place, need_pile, next_pairs

JOIN = "join"
PART = "part"


def moves_of(pile):
    """List the moves whose marks are there: joins by rising place, then parts likewise."""
    need_pile(pile)
    return moves_there(pile)


# Long papers are made move by move, so this and behind don't ask anew whether a pile is one.
def moves_there(pile):
    """List the moves of what surely is a pile, as moves_of does."""
    pairs = next_pairs(pile)
    joins = [(JOIN, low) for low, high in pairs if high == low + 1]
    # Three and more marks at one place make several pairs, but one move.
    doubled = sorted({low for low, high in pairs if low == high})
    return joins + [(PART, place) for place in doubled]


def is_move(thing):
    """Tell whether the thing, which may be anything, has the form of a move."""
    if type(thing) != tuple or len(thing) != 2:
        return False
    kind, place = thing
    return type(kind) == str and kind in (JOIN, PART) and is_place(place)


def going(move):
    """List the places of the two marks that go by the move."""
    kind, place = move
    if kind == JOIN:
        return [place, place + 1]
    return [place, place]


def coming(move):
    """List the places of the marks that come by the move."""
    kind, place = move
    if kind == JOIN:
        return [place + 2]
    if place == 0:
        return [1]
    if place == 1:
        return [0, 2]
    return [place - 2, place + 1]


def fits(move):
    """Tell whether the move brings no mark above the last place."""
    return max(coming(move)) <= LAST_PLACE


def exchanged(pile, gone, come):
    """Tell the pile with the marks at the places of the one list gone, and those of the other come."""
    marks = list(pile)
    for place in gone:
        marks.remove(place)
    return tuple(sorted(marks + come))


def behind(pile, move):
    """Tell the pile behind a move that surely can be made."""
    return exchanged(pile, going(move), coming(move))


def done(pile, move):
    """Tell the pile behind the move."""
    need_pile(pile)
    if not is_move(move) or move not in moves_there(pile):
        raise NoMove("no move whose marks are in the pile")
    if not fits(move):
        raise TooGreat("the move would bring a mark above place 99")
    return behind(pile, move)


def mark_weight(place):
    """Tell the weight of a mark at the place."""
    if place == 0:
        return 3
    if place == 1:
        return 5
    return 2 * place + 2


def weight(pile):
    """Tell the weight of the pile: no more moves than this can be made from it on."""
    need_pile(pile)
    return sum([mark_weight(place) for place in pile])
