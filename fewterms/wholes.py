"""Whole terms: good ones that are good no more with - in the place of any 0 or 1 of theirs.

All of them are looked for at once. The place of a term is which one it is, from 0 on, of all terms of as many lamps,
rising. This is the number to the base 3 whose digits are its signs, - as 0, 0 as 1 and 1 as 2. Some terms together are
kept as one number, with the bit 2 ** place of each of them.
"""

from fewterms.errors import BadTerm
from fewterms.terms import DARK, EITHER, LIT, freed

# For each digit, from the last one on, what a 1 there is worth, and the terms of 5 lamps that have - there.
DIGITS = (
    (1, 0x1249249249249249249249249249249249249249249249249249249249249),
    (3, 0x01c0e070381c0e070381c0e070381c0e070381c0e070381c0e070381c0e07),
    (9, 0x00001ff00003fe00007fc0000ff80001ff00003fe00007fc0000ff80001ff),
    (27, 0x00000000000001ffffffc0000000000000ffffffe00000000000007ffffff),
    (81, 0x00000000000000000000000000000000000000001ffffffffffffffffffff),
)


def wider_terms(term):
    """The terms with - in the place of one 0 or 1 of a term."""
    return [freed(term, lamp) for lamp, sign in enumerate(term) if sign != EITHER]


def is_whole(saying, term):
    """Whether a term is whole; BadTerm of what is no term of as many lamps."""
    if not saying.is_good(term):
        return False
    return not any([saying.is_good(wider) for wider in wider_terms(term)])


def good_terms(settings, digits):
    """The good terms, as one number, where these settings are not off."""
    # The places of the terms that have one setting alone, in order of these: in the second half of them a lamp is lit.
    places = [0]
    for worth, _ in reversed(digits):
        places = [place + worth for place in places] + [place + 2 * worth for place in places]
    good = sum([1 << places[setting] for setting in settings])
    for worth, _ in digits:
        # Good with - at a lamp is what is good with 0 and with 1 there. So far there are no terms with - at this one.
        good = good | ((good >> worth) & (good >> 2 * worth))
    return good


def whole_ones(good, digits):
    """Those of all good terms, as one number, that are whole."""
    narrower = 0
    for worth, either in digits:
        wider = good & either
        narrower = narrower | (wider << worth) | (wider << 2 * worth)
    return good & ~narrower


def whole_terms(saying):
    """All whole terms of a saying, rising, each once, as pairs: the mask of the settings that it has, and the term."""
    digits = DIGITS[:saying.many()]
    good = good_terms(saying.on() + saying.free(), digits)
    # Terms that begin alike, together: the mask and the signs of how they begin, and how they go on, as one number.
    found = [(1, "", whole_ones(good, digits))]
    for lamp, (worth, _) in enumerate(reversed(digits)):
        all_ways = (1 << worth) - 1
        longer = []
        for mask, signs, ways in found:
            lit = mask << (1 << lamp)
            if ways & all_ways != 0:
                longer.append((mask | lit, signs + EITHER, ways & all_ways))
            if (ways >> worth) & all_ways != 0:
                longer.append((mask, signs + DARK, (ways >> worth) & all_ways))
            if ways >> 2 * worth != 0:
                longer.append((lit, signs + LIT, ways >> 2 * worth))
        found = longer
    return [(mask, term) for mask, term, _ in found]


def wholes(saying):
    """All whole terms of a saying, rising, each once."""
    return [term for _, term in whole_terms(saying)]


def grown(saying, term):
    """The term with - at each of its lamps, from the first one on, with which it is good still.

    BadTerm of what is no good term of as many lamps.
    """
    if not saying.is_good(term):
        raise BadTerm("this term has an off setting")
    # A lamp passed by needn't be tried again: what is wider than a term that isn't good isn't good either.
    for lamp in range(saying.many()):
        wider = freed(term, lamp)
        if saying.is_good(wider):
            term = wider
    return term
