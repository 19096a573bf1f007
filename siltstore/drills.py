"""Drills: steps on a disk that may fail behind any of them."""

from siltstore.checks import is_whole
from siltstore.disk import LIST, SYNC_LIST, TOLD, are_names, begun_with, first_fault, is_fault, need_steps, states
from siltstore.sheeterrors import BadDrill
from siltstore.words import LETTERS

MOST_FILES = 8
MOST_SIGNS = 8
MOST_STEPS = 24
LAST_DAY = 999999


class Drill:
    """Files with their days, the list at first, the last day that is told at first, and steps."""

    def __init__(self, files, start, told, steps):
        if not _are_files(files) or not are_names(start, files) or not is_whole(told) or told > LAST_DAY:
            raise BadDrill(None)
        need_steps(steps, MOST_STEPS, files)
        self.files = {name: files[name] for name in sorted(files)}
        self.start = start
        self.told = told
        self.steps = tuple(steps)

    def __eq__(self, other):
        return (isinstance(other, Drill) and self.files == other.files and self.start == other.start
                and self.told == other.told and self.steps == other.steps)

    def __len__(self):
        return len(self.steps)

    def with_steps(self, steps):
        """The drill with other steps."""
        return Drill(self.files, self.start, self.told, steps)


class SafeDrill:
    """Behind 0, 1, .. steps, the files that are there for certain, and the lines that may be read."""

    def __init__(self, rows):
        self.rows = list(rows)

    def __eq__(self, other):
        return isinstance(other, SafeDrill) and self.rows == other.rows

    def __bool__(self):
        return True

    def shows(self, drill):
        """Whether opening is right behind any number of steps of a drill, with these files and lines."""
        return self == judge_drill(drill)


class FallsAt:
    """The least number of steps behind which opening may not be right, a line for which, and a file of it or None."""

    def __init__(self, steps, line, name):
        self.steps = steps
        self.line = line
        self.name = name

    def __eq__(self, other):
        return (isinstance(other, FallsAt) and self.steps == other.steps and self.line == other.line
                and self.name == other.name)

    def __bool__(self):
        return False

    def shows(self, drill):
        """Whether opening may not be right behind so many steps of a drill, for this line, and is right ahead of it."""
        need_drill(drill)
        found, is_right = _states_of(drill), _rightness(drill)
        fault = first_fault(found, is_right)
        if fault is None or fault[0] != self.steps:
            return False
        return is_fault(found[self.steps], self.line, self.name, is_right)


def judge_drill(drill):
    """A SafeDrill if opening is right behind any number of steps, otherwise a FallsAt."""
    need_drill(drill)
    found = _states_of(drill)
    fault = first_fault(found, _rightness(drill))
    if fault is None:
        return SafeDrill([(certain, lines) for certain, _, lines, _ in found])
    return FallsAt(fault[0], fault[1], fault[2])


def spare_steps(drill):
    """The places of the steps without any one of which a drill is useful still, None if it is not useful."""
    need_drill(drill)
    if not _is_useful(drill):
        return None
    return [place for place in range(len(drill.steps))
            if _is_useful(drill.with_steps(drill.steps[:place] + drill.steps[place + 1:]))]


def made_drill(files, start, told, goal):
    """A useful drill from one list to another one, of as few steps as can be."""
    drill = Drill(files, start, told, ())
    last = _last_day(files)
    if not are_names(goal, files) or not _is_line(files, start, told) or not _is_line(files, goal, last):
        raise BadDrill(None)
    steps = []
    # What the other list has, and only this one, must be written; what it has not must go, once it alone is read.
    for name in goal:
        if name not in start:
            steps += [("write", name), ("sync", name)]
    if goal != start:
        steps += [("line", goal), SYNC_LIST]
    steps += [("drop", name) for name in start if name not in goal]
    return drill.with_steps(steps if told == last else [*steps, TOLD])


def is_file_name(name):
    """Whether something can be the name of a file."""
    if not isinstance(name, str) or not 1 <= len(name) <= MOST_SIGNS or name in (LIST, TOLD[0]):
        return False
    return all([sign in LETTERS for sign in name])


def need_drill(drill):
    """Refuse what is no drill."""
    if not isinstance(drill, Drill):
        raise BadDrill(None)


def _are_files(files):
    """Whether something can be the files of a drill."""
    if not isinstance(files, dict) or not 1 <= len(files) <= MOST_FILES:
        return False
    return all([is_file_name(name) and _are_days(pair) for name, pair in files.items()])


def _are_days(pair):
    """Whether something is a pair of a first and a last day."""
    if not isinstance(pair, tuple) or len(pair) != 2 or not is_whole(pair[0], 1) or not is_whole(pair[1]):
        return False
    return pair[0] <= pair[1] <= LAST_DAY


def _last_day(files):
    """The last one of all days of files."""
    return max([pair[1] for pair in files.values()])


def _is_line(files, line, least):
    """Whether the files of a line lie side by side, newer ones first, down to day 1, and end with at least a day."""
    lasts = [files[name][1] for name in line] + [0]
    return lasts[0] >= least and all([files[name][0] == last + 1 for name, last in zip(line, lasts[1:])])


def _states_of(drill):
    """The states of the disk behind 0, 1, .. steps of a drill."""
    return states(begun_with(drill.start), drill.steps)


def _rightness(drill):
    """What tells whether a line is as it must be, before and once all days of a drill are told."""
    last = max(drill.told, _last_day(drill.files))
    return lambda line, is_told: _is_line(drill.files, line, last if is_told else drill.told)


def _is_useful(drill):
    """Whether a drill is safe, tells all days, and leaves just one line that may be read, and its files."""
    found = _states_of(drill)
    if first_fault(found, _rightness(drill)) is not None:
        return False
    _, written, lines, is_told = found[-1]
    if not is_told and drill.told < _last_day(drill.files):
        return False
    return len(lines) == 1 and sorted(lines[0]) == list(written)
