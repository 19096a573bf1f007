"""Policies: which versions of a key stay, and whether these are the ones that pins need."""

from siltstore.checks import is_whole
from siltstore.pins import has_between, need_pins
from siltstore.sheeterrors import BadDay, BadPolicy

PLAIN = ("pinned", "after", "any")
COUNTED = ("newest", "young", "fresh")
GREATEST = 12
DEEPEST = 8


class KeepsAll:
    """A policy keeps what is needed; the greatest number in it."""

    def __init__(self, most):
        self.most = most

    def __eq__(self, other):
        return isinstance(other, KeepsAll) and self.most == other.most

    def __bool__(self):
        return True

    def shows(self, policy):
        """Whether a policy keeps what is needed, and has this greatest number."""
        return self == judge_policy(policy)


class LosesOne:
    """Days and a pin for which a policy loses what is needed."""

    def __init__(self, days, pin, today):
        self.days = list(days)
        self.pin = pin
        self.today = today

    def __eq__(self, other):
        return (isinstance(other, LosesOne) and self.days == other.days and self.pin == other.pin
                and self.today == other.today)

    def __bool__(self):
        return False

    def shows(self, policy):
        """Whether a policy loses what is needed for these days and this pin."""
        _need_policy(policy)
        if self.pin < 0 or not _are_days(self.days, self.today):
            return False
        kept = {day: True for day in kept_days(policy, self.days, [self.pin], self.today)}
        return any([day not in kept for day in needed_days(self.days, [self.pin], self.today)])


class KeepsLittle:
    """A policy never keeps what is not needed; the greatest number in it."""

    def __init__(self, most):
        self.most = most

    def __eq__(self, other):
        return isinstance(other, KeepsLittle) and self.most == other.most

    def __bool__(self):
        return True

    def shows(self, policy):
        """Whether a policy never keeps what is not needed, and has this greatest number."""
        return self == judge_lean(policy)


class KeepsMore:
    """Days and pins for which a policy keeps what is not needed."""

    def __init__(self, days, pins, today):
        self.days = list(days)
        self.pins = list(pins)
        self.today = today

    def __eq__(self, other):
        return (isinstance(other, KeepsMore) and self.days == other.days and self.pins == other.pins
                and self.today == other.today)

    def __bool__(self):
        return False

    def shows(self, policy):
        """Whether a policy keeps what is not needed for these days and pins."""
        _need_policy(policy)
        if not all([pin >= 0 for pin in self.pins]) or not _are_days(self.days, self.today):
            return False
        needed = {day: True for day in needed_days(self.days, self.pins, self.today)}
        return any([day not in needed for day in kept_days(policy, self.days, self.pins, self.today)])


def kept_days(policy, days, pins, today):
    """The days whose versions stay, of the ascending days of the versions of a key."""
    _need_policy(policy)
    if not _are_days(days, today):
        raise BadDay("no ascending days from 1 up to today")
    need_pins(pins)
    order = sorted(pins)
    return [day for place, day in enumerate(days)
            if place == len(days) - 1 or _keeps(policy, _case(days, place, order, today))]


def needed_days(days, pins, today):
    """The days whose versions the pins need, and the newest one."""
    return kept_days(("pinned",), days, pins, today)


def judge_policy(policy):
    """A KeepsAll if a policy keeps what is needed for all days, pins and todays, otherwise a LosesOne."""
    _need_policy(policy)
    most = _greatest(policy)
    # Where a version is needed, all that can be asked about pins holds, whatever other pins there are.
    for days, today in _all_days(most):
        if not _keeps(policy, _case(days, 0, days[:1], today)):
            return LosesOne(days, days[0], today)
    return KeepsAll(most)


def judge_lean(policy):
    """A KeepsLittle if a policy never keeps what is not needed, otherwise a KeepsMore."""
    _need_policy(policy)
    most = _greatest(policy)
    for days, today in _all_days(most):
        # Where it is not needed, there is no pin, or one only ahead of its day, or one behind the next newer one.
        for pins in ([], [0], [today]):
            if _keeps(policy, _case(days, 0, pins, today)):
                return KeepsMore(days, pins, today)
    return KeepsLittle(most)


def _need_policy(policy):
    """Refuse what is no policy."""
    if not _is_policy(policy, DEEPEST):
        raise BadPolicy("no policy")


def _is_policy(policy, deep):
    """Whether something is a policy, of at most so many within one another."""
    if not isinstance(policy, tuple) or not policy or deep == 0:
        return False
    word, parts = policy[0], policy[1:]
    if word in PLAIN:
        return not parts
    if word in COUNTED:
        return len(parts) == 1 and is_whole(parts[0]) and parts[0] <= GREATEST
    if len(parts) != (1 if word == "not" else 2) or word not in ("not", "and", "or"):
        return False
    return all([_is_policy(part, deep - 1) for part in parts])


def _greatest(policy):
    """The greatest number in a policy, 0 without one."""
    if policy[0] in COUNTED:
        return policy[1]
    return max([0] + [_greatest(part) for part in policy[1:]])


def _are_days(days, today):
    """Whether something is ascending days from 1 up to today, also from 1 on."""
    if not is_whole(today, 1) or not isinstance(days, (list, tuple)):
        return False
    if not all([is_whole(day, 1) and day <= today for day in days]):
        return False
    return all([day < newer for day, newer in zip(days, days[1:])])


def _case(days, place, pins, today):
    """What a policy can ask about the one of days at a place, behind which newer ones come; pins ascend."""
    day, newer = days[place], days[place + 1]
    return {"pinned": has_between(pins, day, newer), "after": len(pins) > 0 and pins[-1] >= day, "any": len(pins) > 0,
            "newest": len(days) - 1 - place, "young": today - day, "fresh": today - newer}


def _keeps(policy, case):
    """Whether a policy keeps a version that is covered."""
    word = policy[0]
    if word in PLAIN:
        return case[word]
    if word == "newest":
        return case[word] < policy[1]
    if word in COUNTED:
        return case[word] <= policy[1]
    if word == "not":
        return not _keeps(policy[1], case)
    kept = [_keeps(part, case) for part in policy[1:]]
    return all(kept) if word == "and" else any(kept)


def _all_days(most):
    """Days, and a today, of each kind that policies with numbers up to a greatest one can tell apart; the first day
    is the one that is asked about."""
    found = []
    # Beyond the greatest number all days since something, and all numbers of newer ones, are alike.
    for fresh in range(most + 2):
        for newer in range(1, min(fresh, most) + 2):
            for young in range(fresh + 1, most + 3):
                today = young + 1
                found.append(([1] + [today - fresh + more for more in range(newer)], today))
    return found
