"""What the tests share: all terms and settings, and things of every kind to be refused."""

from itertools import product

COUNTS = (1, 2, 3, 4, 5)


class Hostile:
    """Answers whatever is asked of it with an error of its own."""

    def fails(self, *asked):
        raise RuntimeError("nothing of a strange thing's own is to be run")

    __eq__ = __ne__ = __lt__ = __le__ = __gt__ = __ge__ = fails
    __len__ = __iter__ = __bool__ = __hash__ = __contains__ = fails
    __getitem__ = __index__ = __int__ = __str__ = __repr__ = fails


class HostileText(str):
    __len__ = __iter__ = __getitem__ = __eq__ = __contains__ = Hostile.fails
    __hash__ = str.__hash__


class HostileNumber(int):
    __eq__ = __lt__ = __le__ = __gt__ = __ge__ = __index__ = Hostile.fails
    __hash__ = int.__hash__


class HostileList(list):
    __len__ = __iter__ = __getitem__ = __eq__ = __contains__ = Hostile.fails


def neither_texts_nor_numbers_nor_lists():
    return [
        None, True, False, 1.0, 0.0, 2j, b"1", b"", b"10", bytearray(b"10"), (), ("1", "0"), (1, 2), {}, {"1": 0},
        set(), {1, 2}, frozenset(), range(2), iter([1, 2]), object(), str, int, list, len, ValueError("1"),
        Hostile(), HostileText("1"), HostileNumber(1), HostileList([1]),
    ]


def no_texts():
    return neither_texts_nor_numbers_nor_lists() + [0, 1, -1, 10, 10 ** 3000, [], ["1", "0"], ["10"]]


def no_numbers():
    return neither_texts_nor_numbers_nor_lists() + ["", "0", "1", "one", [], [1]]


def no_lists():
    return neither_texts_nor_numbers_nor_lists() + [0, 1, 10 ** 3000, "", "01", "12"]


def terms_of(many):
    return ["".join(signs) for signs in product("-01", repeat=many)]


def lit_lamps(setting):
    """The lamps that are lit in a setting, by division alone."""
    found = set()
    lamp = 0
    while setting:
        if setting % 2:
            found.add(lamp)
        setting //= 2
        lamp += 1
    return found


def expected_has(term, setting):
    lit = lit_lamps(setting)
    return all(lamp in lit if sign == "1" else lamp not in lit for lamp, sign in enumerate(term) if sign != "-")
