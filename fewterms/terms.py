"""Terms: texts with a sign for each lamp, that of lamp 0 first."""

from fewterms.lamps import is_lit
from fewterms.masks import settings_in

LIT = "1"
DARK = "0"
EITHER = "-"

# All of them, in order as texts are.
SIGNS = "-01"


def is_term(thing, many):
    """Whether a thing of any kind is a term of so many lamps."""
    # The exact kind is asked for, so that nothing of a strange thing's own is run.
    if type(thing) is not str or len(thing) != many:
        return False
    # Stripped of signs a text is empty only where it has nothing else.
    return thing.strip(SIGNS) == ""


def sign_at(setting, lamp):
    """The sign that tells how a lamp is in a setting."""
    return LIT if is_lit(setting, lamp) else DARK


def signs_of(setting, many):
    """The term of so many lamps that has a setting alone."""
    return "".join([sign_at(setting, lamp) for lamp in range(many)])


def has(term, setting):
    """Whether a setting is so at all lamps of a term."""
    for lamp, sign in enumerate(term):
        if sign != EITHER and sign != sign_at(setting, lamp):
            return False
    return True


def mask_had(term):
    """The mask of the settings that a term has."""
    mask = 1
    for lamp, sign in enumerate(term):
        # With this lamp lit each setting is greater by 1 << lamp, and so is the place of its bit.
        lit = mask << (1 << lamp)
        if sign == LIT:
            mask = lit
        elif sign == EITHER:
            mask = mask | lit
    return mask


def settings_of(term):
    """The settings that a term has, rising."""
    return settings_in(mask_had(term))


def freed(term, lamp):
    """The term with - at a lamp."""
    return term[:lamp] + EITHER + term[lamp + 1:]


def laid(one, other):
    """What comes of two terms laid together, or None where they can't be."""
    if len(one) != len(other):
        return None
    unlike = [lamp for lamp in range(len(one)) if one[lamp] != other[lamp]]
    if len(unlike) != 1:
        return None
    at = unlike[0]
    if one[at] == EITHER or other[at] == EITHER:
        return None
    return freed(one, at)
