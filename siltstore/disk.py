"""What a disk may hold when the power fails: files, and lines of the list.

A state of it is a tuple: the ascending tuple of the files that are there for certain, that of the files written and not
dropped, the tuple of the lines that may be read, in the order in which they came, and whether all days are told.
"""

from siltstore.sheeterrors import BadDrill

LIST = "list"
SYNC_LIST = ("sync", "list")
TOLD = ("told",)


def are_names(names, files):
    """Whether something is a tuple of names of files; files is a dict or a tuple of all names."""
    return isinstance(names, tuple) and all([is_name(name, files) for name in names])


def is_name(name, files):
    """Whether something is the name of a file."""
    return isinstance(name, str) and name in files


def is_step(step, files):
    """Whether something is a step with the names of files."""
    if step == TOLD or step == SYNC_LIST:
        return True
    if not isinstance(step, tuple) or len(step) != 2:
        return False
    word, what = step
    if word == "line":
        return are_names(what, files)
    return word in ("write", "sync", "drop") and is_name(what, files)


def need_steps(steps, most, files):
    """Refuse what is no list or tuple of at most so many steps."""
    if not isinstance(steps, (list, tuple)) or len(steps) > most:
        raise BadDrill(None)
    for place, step in enumerate(steps):
        if not is_step(step, files):
            raise BadDrill(place)


def begun_with(names):
    """The state of a disk on which just some files are there for certain, and their line is read."""
    files = tuple(sorted(set(names)))
    return files, files, (names,), False


def states(state, steps):
    """The states behind 0, 1, .. steps."""
    found = [state]
    for step in steps:
        found.append(_behind(found[-1], step))
    return found


def first_fault(found, is_right):
    """The number of the first one of states in which opening may not be right, a line that may be read then, and a file
    of it that is not there for certain, or None; None for all if there is none such."""
    for many, state in enumerate(found):
        for line in state[2]:
            lost = [None] if not is_right(line, state[3]) else [name for name in line if name not in state[0]]
            if lost:
                return many, line, lost[0]
    return None


def is_fault(state, line, name, is_right):
    """Whether opening may not be right in a state because of a line, and a file of it, or None for the line itself."""
    if line not in state[2]:
        return False
    return not is_right(line, state[3]) if name is None else name in line and name not in state[0]


def _behind(state, step):
    """The state behind a step."""
    certain, written, lines, is_told = state
    if step == TOLD:
        return certain, written, lines, True
    if step == SYNC_LIST:
        return certain, written, lines[-1:], is_told
    word, what = step
    if word == "line":
        return certain, written, (*lines, what), is_told
    if word == "sync":
        return _with(certain, what) if what in written else certain, written, lines, is_told
    if word == "write":
        return _less(certain, what), _with(written, what), lines, is_told
    return _less(certain, what), _less(written, what), lines, is_told


def _with(names, name):
    """Ascending names and one more, if it is none of them."""
    return tuple(sorted(set([*names, name])))


def _less(names, name):
    """Names without one."""
    return tuple([other for other in names if other != name])
