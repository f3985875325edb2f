"""Places, piles and rows, and what they are worth."""

from loosemarks.errors import NoPile, NoRow

LAST_PLACE = 99
MOST_MARKS = 240


def is_place(thing):
    """Tell whether the thing is a place."""
    # True and False are integers too, but no places: so the kind itself is asked for.
    return type(thing) == int and 0 <= thing <= LAST_PLACE


def mark_worths():
    """List what a mark is worth, place by place."""
    worths = [1, 2]
    while len(worths) <= LAST_PLACE:
        worths.append(worths[-2] + worths[-1])
    return worths


def next_pairs(pile):
    """List each place of the pile together with the one right behind it."""
    return list(zip(pile, pile[1:]))


def is_pile(thing):
    """Tell whether the thing, which may be anything, is a pile."""
    if type(thing) != tuple or len(thing) > MOST_MARKS:
        return False
    # Only places can be compared safely, so this comes ahead of the order.
    if not all([is_place(entry) for entry in thing]):
        return False
    return all([low <= high for low, high in next_pairs(thing)])


def is_row(thing):
    """Tell whether the thing, which may be anything, is a row."""
    return is_pile(thing) and all([high - low > 1 for low, high in next_pairs(thing)])


def need_pile(thing):
    """Refuse what is no pile with NoPile."""
    if not is_pile(thing):
        raise NoPile("a pile is a tuple of at most 240 places from 0 to 99, never falling")


def need_row(thing):
    """Refuse what is no row with NoRow."""
    if not is_row(thing):
        raise NoRow("a row is a pile without equal or neighbouring places")


def pile_of(places):
    """Tell the pile of a list of places in any order."""
    if type(places) != list or not all([is_place(entry) for entry in places]):
        raise NoPile("a pile is made of a list of places from 0 to 99")
    pile = tuple(sorted(places))
    need_pile(pile)
    return pile


def worth(pile):
    """Tell what the marks of the pile are worth together."""
    need_pile(pile)
    worths = mark_worths()
    return sum([worths[place] for place in pile])
