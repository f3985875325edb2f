"""Papers: moves made one behind the other until none can be made, and the rows at their ends."""

from loosemarks.errors import TooGreat
from loosemarks.moves import JOIN, PART, behind, coming, fits, moves_there
from loosemarks.piles import LAST_PLACE, need_pile


def picked(moves, pick):
    """Tell the move that pick chooses, the first one where there is no pick."""
    if pick is None:
        return moves[0]
    # A list of its own, since pick may change the one that it is handed.
    return moves[pick(list(moves))]


def paper_and_end(pile, pick):
    """Tell a paper of the pile, and the row at which it ends."""
    need_pile(pile)
    paper = []
    found = moves_there(pile)
    while found:
        # A move that brings too great a mark can't be made, so it isn't one to pick from.
        moves = [move for move in found if fits(move)]
        if not moves:
            raise TooGreat("each move that is left would bring a mark above place 99")
        move = picked(moves, pick)
        paper.append(move)
        pile = behind(pile, move)
        found = moves_there(pile)
    return paper, pile


# Products lay many rows on one another, so this doesn't ask anew whether they are rows.
def laid(row, marks):
    """Tell the row that the marks of a row and more marks, at places in any order, become by moves."""
    lying = set(row)
    waiting = list(marks)
    # What lies stays a row: so a look around the mark that is laid finds a move, and no list of moves is needed.
    # Each move lowers the weight of what lies and waits together: so this ends.
    while waiting:
        place = waiting.pop()
        if place in lying:
            move, partner = (PART, place), place
        elif place + 1 in lying:
            move, partner = (JOIN, place), place + 1
        elif place - 1 in lying:
            move, partner = (JOIN, place - 1), place - 1
        else:
            lying.add(place)
            continue
        come = coming(move)
        # A mark above the last place is worth more than any row: no other moves would end at one either.
        if max(come) > LAST_PLACE:
            raise TooGreat("a move would bring a mark above place 99")
        lying.discard(partner)
        waiting.extend(come)
    return tuple(sorted(lying))


def paper_of(pile, pick=None):
    """List moves that lead from the pile to a row; pick tells the place of each in a list of those to choose from."""
    paper, _ = paper_and_end(pile, pick)
    return paper


def settled(pile, pick=None):
    """Tell the row at which the paper of the pile ends."""
    # All papers of a pile end at the same row: where nobody picks, none is made, since that takes long.
    if pick is None:
        need_pile(pile)
        return laid((), pile)
    _, row = paper_and_end(pile, pick)
    return row
