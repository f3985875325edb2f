"""Things that several tests hand in, and what they ask of the answers."""

from collections import Counter
from itertools import combinations, combinations_with_replacement

GREATEST_WORTH = 573147844013817084101
GREATEST_NUMBER = 927372692193078999175
GREATEST_ROW = tuple(range(1, 100, 2))
MOVES = [("join", place) for place in range(99)] + [("part", place) for place in range(100)]


class Prickly:
    """A thing that can't be compared, measured, hashed, gone through or tested."""

    __hash__ = None

    def refuse(self, *rest):
        raise RuntimeError("not to be asked")

    __eq__ = __ne__ = __lt__ = __le__ = __gt__ = __ge__ = refuse
    __len__ = __iter__ = __bool__ = __contains__ = __getitem__ = refuse
    __index__ = __int__ = refuse


class Agreeing:
    """A thing that says it is equal to anything."""

    __hash__ = None

    def __eq__(self, other):
        return True

    def __ne__(self, other):
        return False


def no_tuples():
    return [
        None, True, False, 0, 7, -1, 10 ** 40, "", "0", "none", b"", b"\x00\x01",
        [], [0], [0, 2], {}, {0: 1}, set(), {0, 2}, frozenset([0, 2]), range(3),
        iter((0, 2)), object(), tuple, len, Prickly(), Agreeing(), ValueError("x"),
    ]


def no_places():
    return [
        True, False, -1, -2, -100, 100, 101, 10 ** 40, -10 ** 40, None, "", "0", "a", b"\x00",
        (), (0,), [], [0], {}, set(), object(), int, Prickly(), Agreeing(),
    ]


def tuples_of_wrong_entries():
    alone = [(entry,) for entry in no_places()]
    ahead = [(entry, 50) for entry in no_places()]
    behind = [(50, entry) for entry in no_places()]
    return alone + ahead + behind + [(0, True, 2), (False, 1), (0, 1, 100), (-1, 0, 1)]


def falling_tuples():
    return [(1, 0), (99, 0), (99, 98), (0, 2, 1), (3, 3, 2), (0, 5, 5, 4, 9), (2, 1, 0), (1,) * 200 + (0,)]


def too_long_tuples():
    return [(0,) * 241, (99,) * 241, (5,) * 1000, tuple(range(99)) + (99,) * 142]


def no_piles():
    return no_tuples() + tuples_of_wrong_entries() + falling_tuples() + too_long_tuples()


def piles_that_are_no_rows():
    return [
        (0, 0), (1, 1), (99, 99), (0, 1), (1, 2), (50, 51), (98, 99), (0, 2, 2), (0, 2, 3), (0, 0, 2, 4),
        (0, 5, 7, 9, 10), (3, 3, 3), (0,) * 240, (99,) * 240, tuple(range(100)),
    ]


def rows():
    return [
        (), (0,), (1,), (50,), (99,), (0, 2), (0, 99), (97, 99), (1, 3, 5), (0, 3, 50, 52, 98),
        tuple(range(0, 100, 2)), tuple(range(1, 100, 2)),
    ]


def small_piles():
    """Each pile of few marks at the lowest places, and at the highest."""
    return [
        pile
        for places in (range(6), range(94, 100))
        for many in range(6)
        for pile in combinations_with_replacement(places, many)
    ]


def small_piles_that_fit():
    return [pile for pile in small_piles() if worth_told(pile) <= GREATEST_NUMBER]


def great_piles():
    return [
        (0,) * 240, (1,) * 240, (2,) * 240, (99,) * 240, (0,) * 80 + (1,) * 80 + (50,) * 80,
        tuple(range(100)), tuple(sorted(list(range(100)) * 2)), tuple(sorted(list(range(80)) * 3)),
        (0,) + (99,) * 239, (0, 1, 2, 98, 99, 99),
    ]


def marks_of(move):
    """What goes and what comes, as the document tells it."""
    kind, place = move
    if kind == "join":
        return [place, place + 1], [place + 2]
    if place == 0:
        return [0, 0], [1]
    if place == 1:
        return [1, 1], [2, 0]
    return [place, place], [place + 1, place - 2]


def moves_there(pile):
    many = Counter(pile)
    joins = [("join", place) for place in range(99) if many[place] and many[place + 1]]
    return joins + [("part", place) for place in range(100) if many[place] > 1]


def pile_behind(pile, move):
    go, come = marks_of(move)
    many = Counter(pile)
    many.subtract(go)
    many.update(come)
    return tuple(sorted(many.elements()))


def no_moves():
    return [
        None, True, 0, "join", "part", "", b"join", [], ["join", 0], ["part", 1], {}, {"join": 0}, {"join", 0},
        (), ("join",), ("part",), ("join", 0, 0), ("part", 1, 1), ("join", 0, 1, 2), (0, "join"), (0, 1),
        ("", 0), ("Join", 0), ("JOIN", 0), ("join ", 0), ("open", 1), ("parts", 1), (b"join", 0), (None, 0),
        (("join",), 0), (["join"], 0), ("join", None), ("join", "0"), ("part", "1"), ("join", [0]), ("join", (0,)),
        ("join", True), ("join", False), ("part", True), ("part", False),
        ("join", -1), ("part", -1), ("join", -2), ("part", -100), ("join", 99), ("join", 100), ("part", 100),
        ("join", 10 ** 40), ("part", -10 ** 40), object(), Prickly(), Agreeing(),
        (Prickly(), 0), ("join", Prickly()), (Agreeing(), 0), ("part", Agreeing()),
        (Prickly(),) * 2, (Agreeing(),) * 2,
    ]


def moves_to_make(pile):
    """The moves that are there and bring no mark above place 99."""
    return [move for move in moves_there(pile) if max(marks_of(move)[1]) <= 99]


def row_told(number):
    """The row of a number, by taking off the greatest mark again and again."""
    worths = [1, 2]
    while len(worths) < 100:
        worths.append(worths[-1] + worths[-2])
    row = []
    while number:
        place = max(place for place in range(100) if worths[place] <= number)
        row.insert(0, place)
        number -= worths[place]
    return tuple(row)


def worth_told(pile):
    """What a pile is worth, with a mark at each place as much as at the two below."""
    total, below, here = 0, 1, 1
    for place in range(100):
        total += here * pile.count(place)
        below, here = here, below + here
    return total


def spread_out(row):
    """Piles of the worth of the row, in each of them more marks opened into the two places below."""
    piles = []
    marks = list(row)
    for many in (1, 1, 10, 40):
        for turn in range(many):
            place = max(marks) if turn % 2 == 0 else min(place for place in marks if place > 1)
            marks.remove(place)
            marks += [place - 1, place - 2]
        piles.append(tuple(sorted(marks)))
    return piles


def piles_of_the_greatest_worth():
    return [GREATEST_ROW, (0, 0) + GREATEST_ROW[1:], (0,) + tuple(range(99))] + spread_out(GREATEST_ROW)


def piles_that_fit():
    """Great piles that are worth less than a mark at place 100, some of them only just."""
    return piles_of_the_greatest_worth() + [
        (0,) * 240, (1,) * 240, (2,) * 240, (15,) * 240, (0,) * 80 + (1,) * 80 + (50,) * 80,
        tuple(sorted(list(range(79)) * 3)), tuple(range(98)), tuple(range(99)), (96,) * 6, (97,) * 4, (98, 98),
        (97, 98), (0, 97, 98), (0, 98, 98), (0,) * 238 + (98, 98), (0, 0, 1, 2, 99), (50,) * 239 + (99,),
    ]


def piles_too_great():
    """Piles that are worth as much as a mark at place 100, or more."""
    return [(0,) + pile for pile in piles_of_the_greatest_worth()] + [
        (98, 99), (99, 99), (0, 98, 99), (97, 98, 99), (98, 98, 98), (97, 97, 99), (96, 97, 97, 98), (96,) * 7,
        (0, 0) + GREATEST_ROW, (0,) * 100 + GREATEST_ROW, (0,) * 190 + GREATEST_ROW, (0, 0) + tuple(range(99)),
        tuple(range(100)), tuple(sorted(list(range(100)) * 2)), tuple(sorted(list(range(95)) * 2)) + (99,) * 50,
        tuple(range(0, 100, 2)) + (99,), (0,) * 238 + (98, 99), (0,) * 238 + (99, 99), (90,) * 124, (99,) * 240,
    ]


def picks():
    """Ways to tell a place in a list: the first, the last, the middle one, and some that go up and down."""
    def leaping(moves):
        return sum(place * place + len(kind) for kind, place in moves) * 31 // 7 % len(moves)

    return [
        None, lambda moves: 0, lambda moves: len(moves) - 1, lambda moves: len(moves) // 2,
        lambda moves: min(1, len(moves) - 1), lambda moves: max(0, len(moves) - 2), leaping,
    ]


def low_rows():
    """Each row of places below 12, by rising worth: so those of 0, 1, 2 and so on."""
    found = [
        row
        for many in range(7)
        for row in combinations(range(12), many)
        if all(high - low > 1 for low, high in zip(row, row[1:]))
    ]
    return sorted(found, key=worth_told)


def many_numbers():
    """Numbers of each size: those around what a mark is worth, and some spread between."""
    found = set(range(300)) | {GREATEST_NUMBER - less for less in range(300)}
    for place in range(100):
        found.update(worth_told((place,)) + more for more in (-2, -1, 0, 1, 2))
    found.update(GREATEST_NUMBER * part // 997 for part in range(998))
    return sorted(number for number in found if 0 <= number <= GREATEST_NUMBER)


class Watched:
    """A pick that checks what it is handed, goes along the pile, and keeps the moves it chose."""

    def __init__(self, case, pile, choose):
        self.case = case
        self.pile = pile
        self.choose = choose
        self.chosen = []

    def __call__(self, moves):
        self.case.assertIs(type(moves), list)
        self.case.assertNotEqual(moves, [])
        self.case.assertEqual(moves, moves_to_make(self.pile))
        place = self.choose(moves)
        self.chosen.append(moves[place])
        self.pile = pile_behind(self.pile, moves[place])
        return place


def check_refused(case, wanted, function, *given):
    """Check that the function refuses what is given with just the wanted class of error."""
    with case.assertRaises(wanted) as caught:
        function(*given)
    case.assertIs(type(caught.exception), wanted)
