"""Masks: some unlike settings kept as one number, with the bit 2 ** setting of each of them."""


def mask_of(settings):
    """The mask of some unlike settings."""
    return sum([1 << setting for setting in settings])


def mask_of_all(many):
    """The mask of all settings of so many lamps."""
    return (1 << (1 << many)) - 1


def settings_in(mask):
    """The settings of a mask, rising."""
    return [setting for setting in range(mask.bit_length()) if (mask >> setting) & 1 == 1]


def lowest_in(mask):
    """The lowest setting of a mask that has one."""
    return (mask & -mask).bit_length() - 1


def how_many_in(mask):
    """How many settings a mask has."""
    return f"{mask:b}".count("1")
