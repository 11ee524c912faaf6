"""Sayings: which settings of a few lamps are on, which are free, which are off."""

from fewterms.errors import BadCount, BadRows, BadTerm
from fewterms.lamps import is_count, is_setting
from fewterms.masks import how_many_in, mask_of_all, settings_in
from fewterms.terms import is_term, mask_had


def mask_of_rows(rows, many):
    """The mask of a list of settings; BadRows of what is no list of unlike settings."""
    if type(rows) is not list:
        raise BadRows("settings are handed in as a list")
    mask = 0
    for row in rows:
        if not is_setting(row, many):
            raise BadRows("something in the list is no setting")
        mask = mask | (1 << row)
    if how_many_in(mask) != len(rows):
        raise BadRows("a setting is in the list twice")
    return mask


class Saying:
    """Tells of each setting of so many lamps that it is on, off or free."""

    def __init__(self, many, on, free=None):
        if not is_count(many):
            raise BadCount("this is no number of lamps")
        on_mask = mask_of_rows(on, many)
        free_mask = 0 if free is None else mask_of_rows(free, many)
        if on_mask & free_mask != 0:
            raise BadRows("a setting is on and free")
        self._many = many
        self._on = sorted(on)
        self._free = [] if free is None else sorted(free)
        self._off_mask = mask_of_all(many) & ~(on_mask | free_mask)

    def many(self):
        """How many lamps there are."""
        return self._many

    # The lists are told as new ones, so that the asker may change them.
    def on(self):
        """The settings that are on, rising."""
        return list(self._on)

    def free(self):
        """The settings that are free, rising."""
        return list(self._free)

    def off(self):
        """The settings that are off, rising."""
        return settings_in(self._off_mask)

    def is_good(self, term):
        """Whether a term has no off setting; BadTerm of what is no term of as many lamps."""
        if not is_term(term, self._many):
            raise BadTerm("this is no term of as many lamps")
        return mask_had(term) & self._off_mask == 0
