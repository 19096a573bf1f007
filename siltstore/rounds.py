"""Drills of a new day each that are done again and again."""

from siltstore.disk import TOLD, begun_with, first_fault, is_fault, need_steps, states
from siltstore.sheeterrors import BadDrill

NAMES = ("last", "new", "old", "older", "sheet")
# What the files of a round are called in the next one; no name tells of the others any more.
LATER = {"new": "old", "old": "older", "sheet": "last"}
GONE = "gone"
MOST_STEPS = 16
WITH_TODAY = (("new",), ("sheet", "old"), ("sheet", "last", "older"))
WITHOUT_TODAY = (("old",), ("last", "older"))


class SafeRounds:
    """States of the disk at the beginning of a round, from each of which a round is right, and leads to one of them."""

    def __init__(self, rows):
        self.rows = list(rows)

    def __eq__(self, other):
        return isinstance(other, SafeRounds) and self.rows == other.rows

    def __bool__(self):
        return True

    def shows(self, steps):
        """Whether a round is right from each of these states, leads to one of them, and the first one is among them."""
        _need_round(steps)
        if begun_with(("old",)) not in self.rows or not all([_is_state(row) for row in self.rows]):
            return False
        played = [states(row, steps) for row in self.rows]
        return all([first_fault(found, _is_right) is None and _next_round(found[-1]) in self.rows for found in played])


class FallsIn:
    """The number of rounds that are right, and where and why opening may not be right in the next one."""

    def __init__(self, rounds, steps, line, name):
        self.rounds = rounds
        self.steps = steps
        self.line = line
        self.name = name

    def __eq__(self, other):
        return (isinstance(other, FallsIn) and self.rounds == other.rounds and self.steps == other.steps
                and self.line == other.line and self.name == other.name)

    def __bool__(self):
        return False

    def shows(self, steps):
        """Whether so many rounds are right, and in the next one opening may not be right then, for this line."""
        _need_round(steps)
        rows, fault = _played(steps)
        if fault is None or (len(rows) - 1, fault[0]) != (self.rounds, self.steps):
            return False
        return is_fault(states(rows[-1], steps)[self.steps], self.line, self.name, _is_right)


def judge_drills(steps):
    """A SafeRounds if opening is right behind any number of rounds and steps, otherwise a FallsIn."""
    _need_round(steps)
    rows, fault = _played(steps)
    if fault is None:
        return SafeRounds(rows)
    return FallsIn(len(rows) - 1, fault[0], fault[1], fault[2])


def spare_in_rounds(steps):
    """The places of the steps, but for the telling, without any one of which rounds are right still, None if they are
    not."""
    _need_round(steps)
    if not _are_right(steps):
        return None
    return [place for place, step in enumerate(steps)
            if step != TOLD and _are_right([*steps[:place], *steps[place + 1:]])]


def _need_round(steps):
    """Refuse what are no steps of a round."""
    need_steps(steps, MOST_STEPS, NAMES)
    if list(steps).count(TOLD) != 1:
        raise BadDrill(None)


def _are_right(steps):
    """Whether opening is right behind any number of rounds and steps."""
    return _played(steps)[1] is None


def _played(steps):
    """The states at the beginning of the rounds, up to where they come again, or to a round with a fault, and this
    fault, None without one."""
    state, rows = begun_with(("old",)), []
    while state not in rows:
        rows.append(state)
        found = states(state, steps)
        fault = first_fault(found, _is_right)
        if fault is not None:
            return rows, fault
        state = _next_round(found[-1])
    return rows, None


def _next_round(state):
    """The state at the beginning of the next round."""
    certain, written, lines, _ = state
    renamed = [tuple([LATER.get(name, GONE) for name in line]) for line in lines]
    # A line that may be read stands where it was put last.
    once = [line for place, line in enumerate(renamed) if line not in renamed[place + 1:]]
    return _renamed(certain), _renamed(written), tuple(once), False


def _renamed(files):
    """What files are called in the next round, without those that no name tells of any more."""
    return tuple(sorted([LATER[name] for name in files if name in LATER]))


def _is_right(line, is_told):
    """Whether a line is as it must be, before and once the day of the round is told."""
    return line in WITH_TODAY or not is_told and line in WITHOUT_TODAY


def _is_state(row):
    """Whether a quadruple has the form of a state at the beginning of a round."""
    certain, written, lines, is_told = row
    if is_told is not False or not lines or len(set(lines)) != len(lines):
        return False
    return all([list(files) == [name for name in NAMES if name in files] for files in (certain, written)])
