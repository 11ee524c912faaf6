"""Notes: sayings as texts, the lamps in the first row and a setting in each one behind it."""

from fewterms.errors import BadNote
from fewterms.lamps import MOST_LAMPS, all_settings
from fewterms.sayings import Saying
from fewterms.terms import signs_of

ON = "on"
OFF = "off"
FREE = "free"


def first_row(many):
    """The first row of a note of so many lamps."""
    return f"lamps {many}"


def row_of(setting, many, word):
    """The row that tells of a setting."""
    return f"{signs_of(setting, many)} {word}"


def note_of(saying):
    """The note of a saying."""
    many = saying.many()
    words = {}
    for setting in saying.on():
        words[setting] = ON
    for setting in saying.free():
        words[setting] = FREE
    off = saying.off()
    if len(off) <= len(words):
        for setting in off:
            words[setting] = OFF
    rows = [row_of(setting, many, words[setting]) for setting in all_settings(many) if setting in words]
    return "\n".join([first_row(many), *rows])


def count_in(row):
    """The number of lamps that a first row tells; BadNote where it tells none."""
    for many in range(1, MOST_LAMPS + 1):
        if row == first_row(many):
            return many
    raise BadNote(1)


def all_rows(many):
    """All rows that a note of so many lamps may have behind the first one, each with its setting and its word."""
    rows = {}
    for setting in all_settings(many):
        for word in (ON, OFF, FREE):
            rows[row_of(setting, many, word)] = (setting, word)
    return rows


def words_in(rows, many):
    """The word of each setting of which the rows behind the first one tell; BadNote with the first wrong one."""
    good_rows = all_rows(many)
    words = {}
    for at, row in enumerate(rows, start=2):
        if row not in good_rows:
            raise BadNote(at)
        setting, word = good_rows[row]
        if setting in words:
            raise BadNote(at)
        words[setting] = word
    return words


def saying_of(text):
    """The saying of which a text is a note; BadNote with the first row that isn't as told."""
    # The exact kind is asked for, so that nothing of a strange thing's own is run.
    if type(text) is not str:
        raise BadNote(1)
    rows = text.split("\n")
    many = count_in(rows[0])
    words = words_in(rows[1:], many)
    on = [setting for setting in words if words[setting] == ON]
    free = [setting for setting in words if words[setting] == FREE]
    return Saying(many, on, free)
