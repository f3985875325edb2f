"""Papers: moves made one behind the other until none can be made, and the rows at their ends."""

from loosemarks.errors import TooGreat
from loosemarks.moves import behind, fits, moves_there
from loosemarks.piles import need_pile


def picked(moves, pick):
    """Tell the move that pick chooses, the first one where there is no pick."""
    if pick is None:
        return moves[0]
    # A list of its own, since pick may change the one that it is handed.
    return moves[pick(list(moves))]


def paper_and_end(pile, pick):
    """Tell a paper of the pile, and the row at which it ends."""
    need_pile(pile)
    paper = []
    found = moves_there(pile)
    while found:
        # A move that brings too great a mark can't be made, so it isn't one to pick from.
        moves = [move for move in found if fits(move)]
        if not moves:
            raise TooGreat("each move that is left would bring a mark above place 99")
        move = picked(moves, pick)
        paper.append(move)
        pile = behind(pile, move)
        found = moves_there(pile)
    return paper, pile


def paper_of(pile, pick=None):
    """List moves that lead from the pile to a row; pick tells the place of each in a list of those to choose from."""
    paper, _ = paper_and_end(pile, pick)
    return paper


def settled(pile, pick=None):
    """Tell the row at which the paper of the pile ends."""
    _, row = paper_and_end(pile, pick)
    return row
