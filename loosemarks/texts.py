"""The texts of piles and rows."""

from loosemarks.errors import NoText
from loosemarks.piles import LAST_PLACE, is_pile, is_row, need_pile

NO_MARKS = "none"


def pile_text(pile):
    """Tell the text of the pile."""
    need_pile(pile)
    if not pile:
        return NO_MARKS
    return " ".join([str(place) for place in reversed(pile)])


def places_told(text):
    """List the places that the text tells, in its order."""
    # A table knows each place by its one spelling; int would let others pass, as 05 and +5.
    places = {str(place): place for place in range(LAST_PLACE + 1)}
    words = text.split(" ")
    if not all([word in places for word in words]):
        raise NoText("a text tells places from 0 to 99, with one blank between")
    return [places[word] for word in words]


def read_pile(text):
    """Tell the pile whose text this is."""
    if type(text) != str:
        raise NoText("only a string is a text")
    if text == NO_MARKS:
        return ()
    pile = tuple(reversed(places_told(text)))
    if not is_pile(pile):
        raise NoText("a text tells at most 240 places, from the greatest on")
    return pile


def read_row(text):
    """Tell the row whose text this is."""
    row = read_pile(text)
    if not is_row(row):
        raise NoText("the text is that of a pile that is no row")
    return row
