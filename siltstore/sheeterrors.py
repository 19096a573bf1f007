"""The errors of sheets, of layers and of all that is told about them."""

from siltstore.errors import SiltError


class BadSheet(SiltError):
    """No sheet, or nothing that a sheet can tell."""


class BadLayers(SiltError):
    """No layers, or none at a place."""

    def __init__(self, place):
        SiltError.__init__(self, f"no such layers (place: {place})")
        self.place = place


class BadDay(SiltError):
    """No such day."""


class BadKey(SiltError):
    """No key."""


class BadScript(SiltError):
    """No script, or no deed at a place."""

    def __init__(self, place):
        SiltError.__init__(self, f"no such script (place: {place})")
        self.place = place


class BadDrill(SiltError):
    """No drill, or no step at a place."""

    def __init__(self, place):
        SiltError.__init__(self, f"no such drill (place: {place})")
        self.place = place


class BadPolicy(SiltError):
    """No policy."""


class BadText(SiltError):
    """A text that cannot be read from a line and a column on."""

    def __init__(self, line, column):
        SiltError.__init__(self, f"cannot be read (line: {line}, column: {column})")
        self.line = line
        self.column = column


class NothingDone(SiltError):
    """Nothing is done that could be undone."""
