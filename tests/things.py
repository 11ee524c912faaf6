"""What the tests share: all terms and settings, and things of every kind to be refused."""

from itertools import product
from random import Random

COUNTS = (1, 2, 3, 4, 5)


class Hostile:
    """Answers whatever is asked of it with an error of its own."""

    def fails(self, *asked):
        raise RuntimeError("nothing of a strange thing's own is to be run")

    __eq__ = __ne__ = __lt__ = __le__ = __gt__ = __ge__ = fails
    __len__ = __iter__ = __bool__ = __hash__ = __contains__ = fails
    __getitem__ = __index__ = __int__ = __str__ = __repr__ = fails


class HostileText(str):
    __len__ = __iter__ = __getitem__ = __eq__ = __contains__ = Hostile.fails
    __hash__ = str.__hash__


class HostileNumber(int):
    __eq__ = __lt__ = __le__ = __gt__ = __ge__ = __index__ = Hostile.fails
    __hash__ = int.__hash__


class HostileList(list):
    __len__ = __iter__ = __getitem__ = __eq__ = __contains__ = Hostile.fails


def neither_texts_nor_numbers_nor_lists():
    return [
        None, True, False, 1.0, 0.0, 2j, b"1", b"", b"10", bytearray(b"10"), (), ("1", "0"), (1, 2), {}, {"1": 0},
        set(), {1, 2}, frozenset(), range(2), iter([1, 2]), object(), str, int, list, len, ValueError("1"),
        Hostile(), HostileText("1"), HostileNumber(1), HostileList([1]),
    ]


def no_texts():
    return neither_texts_nor_numbers_nor_lists() + [0, 1, -1, 10, 10 ** 3000, [], ["1", "0"], ["10"]]


def no_numbers():
    return neither_texts_nor_numbers_nor_lists() + ["", "0", "1", "one", [], [1]]


def no_lists():
    return neither_texts_nor_numbers_nor_lists() + [0, 1, 10 ** 3000, "", "01", "12"]


def terms_of(many):
    return ["".join(signs) for signs in product("-01", repeat=many)]


def lit_lamps(setting):
    """The lamps that are lit in a setting, by division alone."""
    found = set()
    lamp = 0
    while setting:
        if setting % 2:
            found.add(lamp)
        setting //= 2
        lamp += 1
    return found


def expected_has(term, setting):
    lit = lit_lamps(setting)
    return all(lamp in lit if sign == "1" else lamp not in lit for lamp, sign in enumerate(term) if sign != "-")


# What each term of 1 to 5 lamps has, worked out once: the tests ask for it often.
HAD = {}


def had(term):
    """The settings that a term has, as a frozen set."""
    if term not in HAD:
        HAD[term] = frozenset(setting for setting in range(2 ** len(term)) if expected_has(term, setting))
    return HAD[term]


def split(kinds):
    """What is on, free and off where each setting is of one of these kinds."""
    return tuple([s for s, kind in enumerate(kinds) if kind == wanted] for wanted in ("on", "free", "off"))


def sayings_of(many):
    """All sayings of a few lamps, as triples of what is on, free and off."""
    for kinds in product(("on", "free", "off"), repeat=2 ** many):
        yield split(kinds)


def some_sayings_of(many, count):
    """So many mixed sayings, some of them with much on, free or off; the same ones each time."""
    chosen = Random(many)
    for number in range(count):
        weights = [1 + number % 5, 1 + number // 5 % 4, 1 + number // 20 % 4]
        yield split(chosen.choices(("on", "free", "off"), weights, k=2 ** many))


def expected_wholes(many, off):
    """Straight from the words: good, and with - in the place of any 0 or 1 of it not good."""
    good = {term for term in terms_of(many) if had(term).isdisjoint(off)}
    found = []
    for term in sorted(good):
        wider = [term[:k] + "-" + term[k + 1:] for k, sign in enumerate(term) if sign != "-"]
        if good.isdisjoint(wider):
            found.append(term)
    return found


def tells(terms, on):
    """Whether each on setting is one that some term has."""
    return set(on) <= set().union(*map(had, terms))


def expected_how_many(many, on, off):
    """How many good terms are wanted at the least: all that one term, two terms and so on can have is gone through."""
    good = {had(term) & set(on) for term in terms_of(many) if had(term).isdisjoint(off)}
    reached = {frozenset()}
    count = 0
    while frozenset(on) not in reached:
        reached = {settings | more for settings in reached for more in good}
        count += 1
    return count
