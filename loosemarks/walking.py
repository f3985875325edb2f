"""Walking from row to row, by one at a time."""

from loosemarks.errors import TooGreat
from loosemarks.numbers import GREATEST_NUMBER, number_of
from loosemarks.piles import need_row
from loosemarks.sums import minus, plus

ONE = (0,)


def next_row(row):
    """Tell the row of one more."""
    return plus(row, ONE)


def last_row(row):
    """Tell the row of one less."""
    return minus(row, ONE)


def rows_from(row, many):
    """List so many rows, the row first, each the next one of the one ahead."""
    need_row(row)
    # Asked ahead of the walk: the last row might be too far off to be walked to.
    if many > GREATEST_NUMBER - number_of(row) + 1:
        raise TooGreat("there are not so many rows from this one on")
    rows = []
    for _ in range(many):
        rows.append(next_row(rows[-1]) if rows else row)
    return rows
