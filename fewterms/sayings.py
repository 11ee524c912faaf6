"""Sayings: which settings of a few lamps are on, which are free, which are off."""

from fewterms.errors import BadCount, BadRows, BadTerm
from fewterms.lamps import all_settings, is_count, is_setting
from fewterms.terms import has, is_term


def rising_settings(rows, many):
    """The settings of a list, in a new one, rising; BadRows of what is no list of unlike settings."""
    if type(rows) is not list:
        raise BadRows("settings are handed in as a list")
    for row in rows:
        if not is_setting(row, many):
            raise BadRows("something in the list is no setting")
    # Only here are all rows plain numbers, which can be counted in a set and sorted.
    if len(set(rows)) != len(rows):
        raise BadRows("a setting is in the list twice")
    return sorted(rows)


class Saying:
    """Tells of each setting of so many lamps that it is on, off or free."""

    def __init__(self, many, on, free=None):
        if not is_count(many):
            raise BadCount("this is no number of lamps")
        self._many = many
        self._on = rising_settings(on, many)
        self._free = [] if free is None else rising_settings(free, many)
        told = self._on + self._free
        if len(set(told)) != len(told):
            raise BadRows("a setting is on and free")
        self._off = [setting for setting in all_settings(many) if setting not in told]

    def many(self):
        """How many lamps there are."""
        return self._many

    # The lists are told as copies, so that the asker may change them.
    def on(self):
        """The settings that are on, rising."""
        return list(self._on)

    def free(self):
        """The settings that are free, rising."""
        return list(self._free)

    def off(self):
        """The settings that are off, rising."""
        return list(self._off)

    def is_good(self, term):
        """Whether a term has no off setting; BadTerm of what is no term of as many lamps."""
        if not is_term(term, self._many):
            raise BadTerm("this is no term of as many lamps")
        for setting in self._off:
            if has(term, setting):
                return False
        return True
