"""Whole terms: good ones that are good no more with - in the place of any 0 or 1 of theirs."""

from fewterms.errors import BadTerm
from fewterms.terms import EITHER, all_terms, freed


def wider_terms(term):
    """The terms with - in the place of one 0 or 1 of a term."""
    return [freed(term, lamp) for lamp, sign in enumerate(term) if sign != EITHER]


def is_whole(saying, term):
    """Whether a term is whole; BadTerm of what is no term of as many lamps."""
    if not saying.is_good(term):
        return False
    return not any([saying.is_good(wider) for wider in wider_terms(term)])


def wholes(saying):
    """All whole terms of a saying, rising, each once."""
    return [term for term in all_terms(saying.many()) if is_whole(saying, term)]


def grown(saying, term):
    """The term with - at each of its lamps, from the first one on, with which it is good still.

    BadTerm of what is no good term of as many lamps.
    """
    if not saying.is_good(term):
        raise BadTerm("this term has an off setting")
    # A lamp passed by needn't be tried again: what is wider than a term that isn't good isn't good either.
    for lamp in range(saying.many()):
        wider = freed(term, lamp)
        if saying.is_good(wider):
            term = wider
    return term
