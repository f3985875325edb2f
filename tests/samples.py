"""Things that several tests hand in, and what they ask of the answers."""

from itertools import combinations_with_replacement

GREATEST_WORTH = 573147844013817084101


class Prickly:
    """A thing that can't be compared, measured, hashed, gone through or tested."""

    __hash__ = None

    def refuse(self, *rest):
        raise RuntimeError("not to be asked")

    __eq__ = __ne__ = __lt__ = __le__ = __gt__ = __ge__ = refuse
    __len__ = __iter__ = __bool__ = __contains__ = __getitem__ = refuse
    __index__ = __int__ = refuse


class Agreeing:
    """A thing that says it is equal to anything."""

    __hash__ = None

    def __eq__(self, other):
        return True

    def __ne__(self, other):
        return False


def no_tuples():
    return [
        None, True, False, 0, 7, -1, 10 ** 40, "", "0", "none", b"", b"\x00\x01",
        [], [0], [0, 2], {}, {0: 1}, set(), {0, 2}, frozenset([0, 2]), range(3),
        iter((0, 2)), object(), tuple, len, Prickly(), Agreeing(), ValueError("x"),
    ]


def no_places():
    return [
        True, False, -1, -2, -100, 100, 101, 10 ** 40, -10 ** 40, None, "", "0", "a", b"\x00",
        (), (0,), [], [0], {}, set(), object(), int, Prickly(), Agreeing(),
    ]


def tuples_of_wrong_entries():
    alone = [(entry,) for entry in no_places()]
    ahead = [(entry, 50) for entry in no_places()]
    behind = [(50, entry) for entry in no_places()]
    return alone + ahead + behind + [(0, True, 2), (False, 1), (0, 1, 100), (-1, 0, 1)]


def falling_tuples():
    return [(1, 0), (99, 0), (99, 98), (0, 2, 1), (3, 3, 2), (0, 5, 5, 4, 9), (2, 1, 0), (1,) * 200 + (0,)]


def too_long_tuples():
    return [(0,) * 241, (99,) * 241, (5,) * 1000, tuple(range(99)) + (99,) * 142]


def no_piles():
    return no_tuples() + tuples_of_wrong_entries() + falling_tuples() + too_long_tuples()


def piles_that_are_no_rows():
    return [
        (0, 0), (1, 1), (99, 99), (0, 1), (1, 2), (50, 51), (98, 99), (0, 2, 2), (0, 2, 3), (0, 0, 2, 4),
        (0, 5, 7, 9, 10), (3, 3, 3), (0,) * 240, (99,) * 240, tuple(range(100)),
    ]


def rows():
    return [
        (), (0,), (1,), (50,), (99,), (0, 2), (0, 99), (97, 99), (1, 3, 5), (0, 3, 50, 52, 98),
        tuple(range(0, 100, 2)), tuple(range(1, 100, 2)),
    ]


def small_piles():
    """Each pile of few marks at the lowest places, and at the highest."""
    return [
        pile
        for places in (range(6), range(94, 100))
        for many in range(6)
        for pile in combinations_with_replacement(places, many)
    ]


def great_piles():
    return [
        (0,) * 240, (1,) * 240, (2,) * 240, (99,) * 240, (0,) * 80 + (1,) * 80 + (50,) * 80,
        tuple(range(100)), tuple(sorted(list(range(100)) * 2)), tuple(sorted(list(range(80)) * 3)),
        (0,) + (99,) * 239, (0, 1, 2, 98, 99, 99),
    ]


def check_refused(case, wanted, function, *given):
    """Check that the function refuses what is given with just the wanted class of error."""
    with case.assertRaises(wanted) as caught:
        function(*given)
    case.assertIs(type(caught.exception), wanted)
