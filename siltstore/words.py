"""Words of a line: small letters that stand together, figures that do, and signs one by one."""

LETTERS = "abcdefghijklmnopqrstuvwxyz"
FIGURES = "0123456789"
MOST_FIGURES = 18


def words_of(line):
    """The words, numbers and signs of a line ahead of its remark, each with its column, from 1."""
    told, found, start = line.partition("#")[0], [], 0
    while start < len(told):
        kind, behind = _kind(told[start]), start + 1
        while behind < len(told) and told[behind] in kind:
            behind += 1
        if told[start] != " ":
            found.append((told[start:behind], start + 1))
        start = behind
    return found


def is_number(word, least, greatest):
    """Whether a word is a number from a least to a greatest one, without zeros in front."""
    if not word or _kind(word[0]) != FIGURES or len(word) > MOST_FIGURES:
        return False
    if word[0] == "0" and len(word) > 1:
        return False
    return least <= int(word) <= greatest


def _kind(sign):
    """The signs that make a word together with a sign, none if it stands alone."""
    for kind in (LETTERS, FIGURES):
        if sign in kind:
            return kind
    return ""
