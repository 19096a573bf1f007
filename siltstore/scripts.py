"""Scripts: falls and bakes one behind the other, once or again and again, whatever the sheets tell."""

from siltstore.checks import is_whole
from siltstore.sheeterrors import BadScript

FALL = ("fall",)
MOST_DEEDS = 24
LAST_NUMBER = 19
MOST_AT_FIRST = 20


class RightScript:
    """The days of all layers behind each deed, in the order in which they win."""

    def __init__(self, rows):
        self.rows = [list(row) for row in rows]

    def __eq__(self, other):
        return isinstance(other, RightScript) and self.rows == other.rows

    def __bool__(self):
        return True

    def shows(self, deeds):
        """Whether a script is right, with these layers behind each deed."""
        return self == judge_script(deeds)


class WrongScript:
    """The least number of deeds behind which some key can read wrong, and two sheets' tellings for which it does."""

    def __init__(self, many, one, other):
        self.many = many
        self.one = one
        self.other = other

    def __eq__(self, other):
        return (isinstance(other, WrongScript) and self.many == other.many and self.one == other.one
                and self.other == other.other)

    def __bool__(self):
        return False

    def shows(self, deeds):
        """Whether a key reads wrong behind so many deeds, for these tellings, and none behind fewer."""
        _need_script(deeds, 0)
        if _first_wrong(_played(deeds, []), deeds) != self.many:
            return False
        early, text = self.one
        late, newer = self.other
        if text != "leaf" or newer not in ("late", "mark") or early >= late:
            return False
        return _reads_wrong(deeds[:self.many], {early: text, late: newer})


class RightRounds:
    """A number of rounds that are right, which is enough for all."""

    def __init__(self, rounds):
        self.rounds = rounds

    def __eq__(self, other):
        return isinstance(other, RightRounds) and self.rounds == other.rounds

    def __bool__(self):
        return True

    def shows(self, deeds, many):
        """Whether a script is right for all numbers of rounds, with so many layers at first."""
        return self == judge_rounds(deeds, many)


class WrongRound:
    """How many rounds are right, and the least number of deeds of the next one behind which some key can read wrong."""

    def __init__(self, rounds, deeds):
        self.rounds = rounds
        self.deeds = deeds

    def __eq__(self, other):
        return isinstance(other, WrongRound) and self.rounds == other.rounds and self.deeds == other.deeds

    def __bool__(self):
        return False

    def shows(self, deeds, many):
        """Whether so many rounds are right, and the next one up to ahead of so many deeds."""
        return self == judge_rounds(deeds, many)


def judge_script(deeds):
    """A RightScript if each key reads right behind each deed, whatever the sheets tell, otherwise a WrongScript."""
    _need_script(deeds, 0)
    rows = _played(deeds, [])
    many = _first_wrong(rows, deeds)
    if many is None:
        return RightScript(rows)
    one, other = _wrong_pair(rows[many - 1], deeds[many - 1])
    return WrongScript(many, one, other)


def judge_rounds(deeds, many):
    """A RightRounds if a script is right for all numbers of rounds, otherwise a WrongRound."""
    if not is_whole(many) or many > MOST_AT_FIRST:
        raise BadScript(None)
    counts = _need_script(deeds, many)
    if counts[-1] < many:
        raise BadScript(None)
    rounds, layers = _rounds_enough(deeds, counts), [(day,) for day in range(many, 0, -1)]
    # Whether a bake takes neighbours in their order is the same in each round, and one that drops marks, which must lie
    # at the bottom, does not lie there any more once there are more layers: further rounds tell nothing new.
    for done in range(rounds):
        rows = _played(deeds, layers)
        wrong = _first_wrong(rows, deeds)
        if wrong is not None:
            return WrongRound(done, wrong)
        layers = rows[-1] if rows else layers
    return RightRounds(rounds)


def _is_deed(deed):
    """Whether something is a deed of a script, whatever layers there are."""
    if deed == FALL:
        return True
    if not isinstance(deed, tuple) or len(deed) != 4 or deed[0] != "bake":
        return False
    _, numbers, place, keeps = deed
    if not isinstance(numbers, tuple) or not numbers:
        return False
    if not all([is_whole(number) and number <= LAST_NUMBER for number in numbers]):
        return False
    return len(set(numbers)) == len(numbers) and is_whole(place) and isinstance(keeps, bool)


def _need_script(deeds, many):
    """Refuse what is no script with so many layers at first; how many there are ahead of each deed, and at last."""
    if not isinstance(deeds, (list, tuple)) or len(deeds) > MOST_DEEDS:
        raise BadScript(None)
    counts = [many]
    for place, deed in enumerate(deeds):
        if not _is_deed(deed) or not _has_layers(deed, counts[-1]):
            raise BadScript(place)
        counts.append(counts[-1] + 1 - (0 if deed == FALL else len(deed[1])))
    return counts


def _has_layers(deed, many):
    """Whether a deed has its layers, and its place, among so many layers."""
    return deed == FALL or max(deed[1]) < many and deed[2] <= many - len(deed[1])


def _played(deeds, layers):
    """The layers behind each deed of a script, as tuples of their days."""
    rows = []
    for deed in deeds:
        if deed == FALL:
            layers = [(1 + sum([len(layer) for layer in layers]),), *layers]
        else:
            layers = _moved(layers, deed, tuple([day for number in deed[1] for day in layers[number]]))
        rows.append(layers)
    return rows


def _moved(layers, deed, baked):
    """The layers behind a bake, with what was baked at its place among those that are left."""
    left = [layer for number, layer in enumerate(layers) if number not in deed[1]]
    return [*left[:deed[2]], baked, *left[deed[2]:]]


def _first_wrong(rows, deeds):
    """The least number of deeds behind which some key can read wrong, None if none can."""
    for place, deed in enumerate(deeds):
        if _wrong_pair(rows[place], deed) is not None:
            return place + 1
    return None


def _wrong_pair(layers, deed):
    """Two tellings of a key that reads wrong behind a deed, None if none does; ahead of the deed none did."""
    order = [day for layer in layers for day in layer]
    for first, behind in zip(order, order[1:]):
        if first < behind:
            return (first, "leaf"), (behind, "late")
    # What lies below can come to light only where marks above it are dropped.
    if deed != FALL and not deed[3] and deed[2] < len(layers) - 1:
        return (layers[-1][0], "leaf"), (layers[deed[2]][0], "mark")
    return None


def _reads_wrong(deeds, told):
    """Whether a key of which some days tell reads wrong behind deeds; told are these days' texts."""
    layers, today = [], 0
    for deed in deeds:
        if deed == FALL:
            today += 1
            layers = [told.get(today), *layers]
        else:
            baked = _first_told([layers[number] for number in deed[1]])
            layers = _moved(layers, deed, None if baked == "mark" and not deed[3] else baked)
    # Only sheets that have fallen tell of the key: none falls ahead of day 1, and later ones have not come yet.
    fallen = [day for day in told if 1 <= day <= today]
    newest = told[max(fallen)] if fallen else None
    return _shown(_first_told(layers)) != _shown(newest)


def _first_told(layers):
    """What the first one of layers that tells of a key tells, None if none does."""
    for told in layers:
        if told is not None:
            return told
    return None


def _shown(told):
    """What a key reads that is told of so: a mark reads as if nothing was told."""
    return None if told == "mark" else told


def _rounds_enough(deeds, counts):
    """The number of rounds that a RightRounds has; counts are the numbers of layers ahead of each deed, and at last."""
    many, more = counts[0], counts[-1] - counts[0]
    if more == 0:
        return 2
    reaches = [max(max(deed[1]), deed[2] + len(deed[1])) + 1 - (counts[place] - many)
               for place, deed in enumerate(deeds) if deed != FALL]
    reach = max([0, *reaches])
    return max(0, reach + 1 - many) // more + 2
