"""The errors of rules, of their days and of all that is told about them."""


class SiltError(ValueError):
    """What all errors of this package are."""


class BadRule(SiltError):
    """No rule, or no pair of a rule at a place."""

    def __init__(self, place):
        SiltError.__init__(self, f"no such rule (place: {place})")
        self.place = place


class BadDay(SiltError):
    """No such day, grade or number."""


class BadDigits(SiltError):
    """No digits of a day, or none at a place."""

    def __init__(self, place):
        SiltError.__init__(self, f"no such digits (place: {place})")
        self.place = place


class Unlike(SiltError):
    """Two things that do not go together; what tells of them in which respect."""

    def __init__(self, what):
        SiltError.__init__(self, f"these differ (what: {what})")
        self.what = what


class BadWeights(SiltError):
    """No weights."""


class BadChoices(SiltError):
    """No choices, or no rule at a place of them."""

    def __init__(self, place):
        SiltError.__init__(self, f"no such choices (place: {place})")
        self.place = place


class BadText(SiltError):
    """A text that cannot be read from a line and a column on."""

    def __init__(self, line, column):
        SiltError.__init__(self, f"cannot be read (line: {line}, column: {column})")
        self.line = line
        self.column = column
