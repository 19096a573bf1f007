"""Texts of rules and of their calendars."""

from siltstore.calendars import both, days_baking, days_deep, days_few, days_from, days_with, either, every_day, rest
from siltstore.errors import BadText
from siltstore.pairs import GREATEST, LEAST
from siltstore.rules import Rule, need_rule
from siltstore.series import MOST
from siltstore.words import FIGURES, LETTERS, Words, is_number

MOST_FIGURES = 18
MOST_OF_GRADE = 11
LAST_GRADE = 40
MOST_LAYERS = 60
LAST_DAY = 10 ** 17
DEEPEST = 20


class Reader(Words):
    """The words of a line, refused where one does not fit."""

    def __init__(self, row, line):
        Words.__init__(self, row, line, (LETTERS, FIGURES))

    def take(self, *words):
        """Read words that must come next."""
        for word in words:
            if self.word() != word:
                raise BadText(self.row, self.spot())
            self.skip()

    def take_number(self, least, greatest):
        """Read the number that must come next, from a least to a greatest one."""
        word = self.word()
        if not is_number(word, MOST_FIGURES, least, greatest):
            raise BadText(self.row, self.spot())
        self.skip()
        return int(word)


def read_rule(text):
    """The rule that a text tells."""
    if not isinstance(text, str):
        raise BadText(0, 0)
    lines, front, period = text.split("\n"), [], []
    for row, line in enumerate(lines, start=1):
        reader = Reader(row, line)
        if not reader.words:
            continue
        # The period's lines stand behind those of the front.
        if reader.word() == "first" and len(front) < MOST and not period:
            reader.take("first")
            front.append(_read_pair(reader))
        elif len(period) < MOST:
            reader.take("then")
            period.append(_read_pair(reader))
        else:
            raise BadText(row, reader.spot())
    if not period:
        raise BadText(len(lines) + 1, 1)
    return Rule(front, period)


def write_rule(rule):
    """The text of a rule."""
    need_rule(rule)
    lines = [_pair_line("first", pair) for pair in rule.front] + [_pair_line("then", pair) for pair in rule.period]
    return "".join(lines)


def read_calendar(rule, text):
    """The calendar of a rule that a line tells."""
    need_rule(rule)
    if not isinstance(text, str):
        raise BadText(0, 0)
    line, feed, _ = text.partition("\n")
    reader = Reader(1, line)
    if feed:
        # A line feed ends a remark, and is a sign that fits nowhere.
        reader.words.append((feed, reader.end))
    calendar = _any_of(rule, reader, 0)
    _need_end(reader)
    return calendar


def _read_pair(reader):
    """The pair that the rest of a line tells."""
    reader.take("at")
    most = reader.take_number(LEAST, GREATEST)
    reader.take("bake")
    many = reader.take_number(LEAST, most)
    _need_end(reader)
    return most, many


def _need_end(reader):
    """Refuse a line that goes on."""
    if reader.word():
        raise BadText(reader.row, reader.spot())


def _pair_line(word, pair):
    """The line of a pair, which begins with a word."""
    return f"{word} at {pair[0]} bake {pair[1]}\n"


def _any_of(rule, reader, deep):
    """The calendar of parts with or between them; deep tells within how many others they lie."""
    calendar = _all_of(rule, reader, deep)
    while reader.word() == "or":
        reader.take("or")
        calendar = either(calendar, _all_of(rule, reader, deep))
    return calendar


def _all_of(rule, reader, deep):
    """The calendar of parts with and between them."""
    calendar = _part(rule, reader, deep)
    while reader.word() == "and":
        reader.take("and")
        calendar = both(calendar, _part(rule, reader, deep))
    return calendar


def _part(rule, reader, deep):
    """The calendar of a part: with not ahead, in parentheses, or plain."""
    word = reader.word()
    if word not in ("not", "("):
        return _plain(rule, reader)
    if deep == DEEPEST:
        raise BadText(reader.row, reader.spot())
    reader.take(word)
    if word == "not":
        return rest(_part(rule, reader, deep + 1))
    calendar = _any_of(rule, reader, deep + 1)
    reader.take(")")
    return calendar


def _plain(rule, reader):
    """The calendar of a part that has no others in it."""
    word = reader.word()
    if word == "always":
        reader.take("always")
        return every_day(rule)
    if word == "at":
        reader.take("at", "most")
        return days_few(rule, reader.take_number(0, MOST_LAYERS))
    if word == "baking":
        reader.take("baking")
        return days_baking(rule, reader.take_number(0, LAST_GRADE))
    if word == "up":
        reader.take("up", "to")
        return days_deep(rule, reader.take_number(0, LAST_GRADE))
    if word == "from":
        reader.take("from")
        return days_from(rule, reader.take_number(0, LAST_DAY))
    many = reader.take_number(0, MOST_OF_GRADE)
    reader.take("of")
    return days_with(rule, reader.take_number(0, LAST_GRADE), many)
