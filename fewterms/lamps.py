"""Numbers of lamps, and settings of them."""

MOST_LAMPS = 5


def is_count(thing):
    """Whether a thing of any kind is a number of lamps."""
    # The exact kind is asked for: True is an int, too, and other kinds under int may compare as they like.
    return type(thing) is int and 1 <= thing <= MOST_LAMPS


def is_setting(thing, many):
    """Whether a thing of any kind is a setting of so many lamps."""
    return type(thing) is int and 0 <= thing < (1 << many)


def all_settings(many):
    """All settings of so many lamps, rising."""
    return list(range(1 << many))


def is_lit(setting, lamp):
    """Whether a lamp is lit in a setting."""
    return (setting >> lamp) & 1 == 1
