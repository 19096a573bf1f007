"""Texts of sheets, of scripts and of drills."""

from siltstore.disk import LIST, SYNC_LIST, TOLD
from siltstore.drills import LAST_DAY, MOST_FILES, MOST_STEPS, Drill, is_file_name, need_drill
from siltstore.layers import need_sheet
from siltstore.scripts import FALL, LAST_NUMBER, MOST_DEEDS
from siltstore.sheeterrors import BadText
from siltstore.sheets import LAST_KEY, MOST_THINGS, SIGNS, Sheet, is_value
from siltstore.words import Words, is_number

MOST_FIGURES = 6
LAST_PLACE = 999999


def read_sheet(text):
    """The sheet that a text tells."""
    leaves, marks, ranges = {}, [], []
    for many, line in enumerate(_lines_of(text)):
        _need(line, many < MOST_THINGS)
        _read_thing(line, leaves, marks, ranges)
        _need(line, line.word() == "")
    return Sheet(leaves, marks, ranges)


def read_script(text):
    """The list of the deeds that a text tells."""
    deeds = []
    for line in _lines_of(text):
        _need(line, len(deeds) < MOST_DEEDS)
        deeds.append(_read_deed(line))
        _need(line, line.word() == "")
    return deeds


def read_drill(text):
    """The drill that a text tells."""
    files, begun, steps = {}, [], []
    for line in _lines_of(text):
        if begun:
            _need(line, len(steps) < MOST_STEPS)
            steps.append(_read_step(line, files))
        elif line.word() == "start":
            _need(line, len(files) > 0)
            begun.append(_read_start(line, files))
        else:
            _need(line, len(files) < MOST_FILES)
            _read_file(line, files)
        _need(line, line.word() == "")
    if not begun:
        raise BadText(text.count("\n") + 2, 1)
    start, told = begun[0]
    return Drill(files, start, told, steps)


def write_sheet(sheet):
    """The text of a sheet."""
    need_sheet(sheet)
    lines = [(key, f"{key} = {value}\n") for key, value in sheet.leaves.items()]
    lines += [(first, f"{first} gone\n" if first == last else f"{first} to {last} gone\n")
              for first, last in sheet.gone]
    return "".join([line for _, line in sorted(lines)])


def write_script(deeds):
    """The text of a script."""
    return "".join([_deed_line(deed) for deed in deeds])


def write_drill(drill):
    """The text of a drill."""
    need_drill(drill)
    lines = [f"file {name} {first} to {last}\n" for name, (first, last) in drill.files.items()]
    lines.append(" ".join(["start", *drill.start, f"told {drill.told}\n"]))
    return "".join([*lines, *[_step_line(step) for step in drill.steps]])


def _lines_of(text):
    """The lines of a text in which there are words."""
    if not isinstance(text, str):
        raise BadText(0, 0)
    lines = [Words(row, line, (SIGNS,)) for row, line in enumerate(text.split("\n"), start=1)]
    return [line for line in lines if line.words]


def _need(line, fits):
    """Refuse the word of a line that comes next, if it does not fit."""
    if not fits:
        raise BadText(line.row, line.spot())


def _take(line, word):
    """Read a word that must come next."""
    _need(line, line.word() == word)
    line.skip()


def _take_number(line, least, greatest):
    """Read the number that must come next, from a least to a greatest one."""
    word = line.word()
    _need(line, is_number(word, MOST_FIGURES, least, greatest))
    line.skip()
    return int(word)


def _take_name(line, files):
    """Read the name of one of the files, which must come next."""
    name = line.word()
    _need(line, name in files)
    line.skip()
    return name


def _read_thing(line, leaves, marks, ranges):
    """Read a leaf, a mark or a range, and put it to the others."""
    spot = line.spot()
    key = _take_number(line, 0, LAST_KEY)
    word = line.word()
    # Only the next word tells whether the key is a leaf's or a mark's, and so cannot stand once more.
    if word == "=" and (key in leaves or key in marks) or word == "gone" and key in leaves:
        raise BadText(line.row, spot)
    _need(line, word in ("=", "to", "gone"))
    line.skip()
    if word == "=":
        _need(line, is_value(line.word()))
        leaves[key] = line.word()
        line.skip()
    elif word == "to":
        ranges.append((key, _take_number(line, key, LAST_KEY)))
        _take(line, "gone")
    else:
        marks.append(key)


def _read_deed(line):
    """Read a deed."""
    if line.word() == FALL[0]:
        line.skip()
        return FALL
    _take(line, "bake")
    numbers = [_take_number(line, 0, LAST_NUMBER)]
    while line.word() != "to":
        _need(line, line.word() not in [str(number) for number in numbers])
        numbers.append(_take_number(line, 0, LAST_NUMBER))
    _take(line, "to")
    place = _take_number(line, 0, LAST_PLACE)
    word = line.word()
    _need(line, word in ("keep", "drop"))
    line.skip()
    return "bake", tuple(numbers), place, word == "keep"


def _read_file(line, files):
    """Read a file with its days, and put it to the others."""
    _take(line, "file")
    name = line.word()
    _need(line, is_file_name(name) and name not in files)
    line.skip()
    first = _take_number(line, 1, LAST_DAY)
    _take(line, "to")
    files[name] = (first, _take_number(line, first, LAST_DAY))


def _read_start(line, files):
    """Read the list at first, and the last day that is told."""
    _take(line, "start")
    names = []
    while line.word() != TOLD[0]:
        names.append(_take_name(line, files))
    _take(line, TOLD[0])
    return tuple(names), _take_number(line, 0, LAST_DAY)


def _read_step(line, files):
    """Read a step."""
    word, names = line.word(), []
    _need(line, word in ("write", "sync", "line", "drop", TOLD[0]))
    line.skip()
    if word == TOLD[0]:
        return TOLD
    if word == "line":
        while line.word():
            names.append(_take_name(line, files))
        return word, tuple(names)
    if word == "sync" and line.word() == LIST:
        line.skip()
        return SYNC_LIST
    return word, _take_name(line, files)


def _deed_line(deed):
    """The line of a deed."""
    if deed == FALL:
        return "fall\n"
    _, numbers, place, keeps = deed
    words = " ".join([str(number) for number in numbers])
    return f"bake {words} to {place} keep\n" if keeps else f"bake {words} to {place} drop\n"


def _step_line(step):
    """The line of a step."""
    if step == TOLD:
        return "told\n"
    word, what = step
    return " ".join([word, *what] if word == "line" else [word, what]) + "\n"
