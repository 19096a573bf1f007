"""Words of a line: signs of one kind that stand together, and other signs one by one."""

LETTERS = "abcdefghijklmnopqrstuvwxyz"
FIGURES = "0123456789"


class Words:
    """The words of a line of a text, gone through from left to right."""

    def __init__(self, row, line, kinds):
        self.row = row
        self.words = words_of(line, kinds)
        self.end = len(line) + 1
        self.at = 0

    def word(self):
        """The word that comes next, empty behind the last one."""
        return self.words[self.at][0] if self.at < len(self.words) else ""

    def spot(self):
        """The column of the word that comes next, behind the last one that of the line's end."""
        return self.words[self.at][1] if self.at < len(self.words) else self.end

    def skip(self):
        """Go on behind the word that comes next."""
        self.at += 1


def words_of(line, kinds):
    """The words and signs of a line ahead of its remark, each with its column, from 1; signs of one of the kinds that
    stand together are a word."""
    told, found, start = line.partition("#")[0], [], 0
    while start < len(told):
        alike, behind = _alike(told[start], kinds), start + 1
        while behind < len(told) and told[behind] in alike:
            behind += 1
        if told[start] != " ":
            found.append((told[start:behind], start + 1))
        start = behind
    return found


def is_number(word, figures, least, greatest):
    """Whether a word is a number of at most so many figures, from a least to a greatest one, without zeros in front."""
    if not 1 <= len(word) <= figures or not all([sign in FIGURES for sign in word]):
        return False
    if word[0] == "0" and len(word) > 1:
        return False
    return least <= int(word) <= greatest


def _alike(sign, kinds):
    """The signs that make a word together with a sign, none if it stands alone."""
    for kind in kinds:
        if sign in kind:
            return kind
    return ""
