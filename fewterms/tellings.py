"""Tellings: lists of good terms that have all on settings."""

from fewterms.errors import BadTelling
from fewterms.terms import has, is_term


def are_good_terms(saying, things):
    """Whether all things of a list are good terms of as many lamps."""
    for thing in things:
        if not is_term(thing, saying.many()) or not saying.is_good(thing):
            return False
    return True


def is_telling(saying, thing):
    """Whether a thing of any kind is a telling of a saying."""
    # The exact kind is asked for, so that nothing of a strange thing's own is run.
    if type(thing) is not list or not are_good_terms(saying, thing):
        return False
    left = saying.on()
    for term in thing:
        left = [setting for setting in left if not has(term, setting)]
    return left == []


def trimmed(saying, terms):
    """A telling without the terms, gone through from the first one on, that can go; BadTelling."""
    if not is_telling(saying, terms):
        raise BadTelling("this is no telling of the saying")
    on = saying.on()
    told = [[setting for setting in on if has(term, setting)] for term in terms]
    # A term can go where each on setting that it has is one that another term, not taken yet, has too.
    times = {setting: 0 for setting in on}
    for settings in told:
        for setting in settings:
            times[setting] += 1
    kept = []
    for term, settings in zip(terms, told):
        if all([times[setting] > 1 for setting in settings]):
            for setting in settings:
                times[setting] -= 1
        else:
            kept.append(term)
    return kept
