"""The refusals of the program."""


class TermError(ValueError):
    """Any refusal."""


class BadCount(TermError):
    """What was handed in is no number of lamps."""


class BadRows(TermError):
    """What was handed in is no list of unlike settings, or a setting is on and free."""


class BadTerm(TermError):
    """What was handed in is no term as it is wanted there."""


class BadTelling(TermError):
    """What was handed in is no telling of the saying."""


class BadNote(TermError):
    """What was handed in is no note; row is the first row that is not as told, from 1."""

    def __init__(self, row):
        super().__init__(f"row {row} of the note is not as told")
        self.row = row
