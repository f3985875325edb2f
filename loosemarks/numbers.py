"""The row of each number, the number of each row, and the order of rows."""

from loosemarks.errors import NoRow, TooGreat
from loosemarks.piles import LAST_PLACE, mark_worths, need_row, worth

# One less than what a mark at place 100 would be worth.
GREATEST_NUMBER = 927372692193078999175


def row_of(number):
    """Tell the row of the number."""
    # True and False are integers too, but no whole numbers here: so the kind itself is asked for.
    if type(number) != int or number < 0:
        raise NoRow("only a whole number from 0 on has a row")
    if number > GREATEST_NUMBER:
        raise TooGreat("the row would need a mark above place 99")
    worths = mark_worths()
    rest = number
    row = []
    # Behind the greatest mark that the rest allows, the place next below is worth more than is left.
    for place in range(LAST_PLACE, -1, -1):
        if worths[place] <= rest:
            row.append(place)
            rest -= worths[place]
    return tuple(sorted(row))


def number_of(row):
    """Tell the number of the row."""
    need_row(row)
    return worth(row)


def greatest_lone(one, other):
    """Tell the greatest place of the one row that the other one hasn't, -1 where there is none."""
    return max([place for place in one if place not in other], default=-1)


def compare(one, other):
    """Tell -1, 0 or 1: whether the one row is less than the other, the same, or greater."""
    need_row(one)
    need_row(other)
    here = greatest_lone(one, other)
    there = greatest_lone(other, one)
    if here == there:
        return 0
    return 1 if here > there else -1
