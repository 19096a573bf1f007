"""A store that is played day by day, just as the document tells it, to hold the closed forms against."""

import random

from siltstore.rules import Rule


class Play:
    """What lies there behind the bakes of each day; layers are triples of first day, last day and grade."""

    def __init__(self, rule):
        self.rule = rule
        self.day = 0
        self.layers = []
        self.made = []
        self.baked = []
        self.work_on = 0

    def fall(self):
        self.day += 1
        self.layers.append((self.day, self.day, 0))
        self._note_made(0)
        self.baked = []
        self.work_on = 0
        grade = self._ripe()
        while grade is not None:
            self._bake(grade)
            grade = self._ripe()

    def _note_made(self, grade):
        if grade == len(self.made):
            self.made.append(0)
        self.made[grade] += 1

    def _places(self, grade):
        return [place for place, layer in enumerate(self.layers) if layer[2] == grade]

    def _ripe(self):
        for grade in sorted({layer[2] for layer in self.layers}):
            if len(self._places(grade)) >= self.rule[grade][0]:
                return grade
        return None

    def _bake(self, grade):
        places = self._places(grade)[:self.rule[grade][1]]
        first, last = places[0], places[-1]
        assert places == list(range(first, last + 1)), "bakes take neighbours"
        new = (self.layers[first][0], self.layers[last][1], grade + 1)
        self.layers[first:last + 1] = [new]
        self.work_on += new[1] - new[0] + 1
        self._note_made(grade + 1)
        self.baked.append(grade)

    def places(self):
        """Where each day lies, from day 1 on: pairs of the grade and the number of its layer."""
        return [(grade, number) for number, (first, last, grade) in enumerate(self.layers)
                for _ in range(first, last + 1)]

    def digits(self):
        told = []
        for layer in self.layers:
            told += [0] * (layer[2] + 1 - len(told))
            told[layer[2]] += 1
        return told


def played(rule, many):
    """The store behind each of so many days, one play that goes on."""
    play = Play(rule)
    for _ in range(many):
        play.fall()
        yield play


def some_pair(dice, greatest=12):
    most = dice.randint(2, greatest)
    return most, dice.randint(2, most)


def some_rule(dice, greatest=12):
    front = [some_pair(dice, greatest) for _ in range(dice.randint(0, 6))]
    period = [some_pair(dice, greatest) for _ in range(dice.randint(1, 6))]
    return Rule(front, period)


def some_rules(seed, many, greatest=12):
    dice = random.Random(seed)
    return [some_rule(dice, greatest) for _ in range(many)]


PLAIN_RULES = [
    Rule([], [(2, 2)]),
    Rule([], [(3, 2)]),
    Rule([], [(3, 3)]),
    Rule([], [(12, 2)]),
    Rule([], [(12, 12)]),
    Rule([(3, 2)], [(4, 4)]),
    Rule([(12, 12), (2, 2)], [(3, 2), (2, 2)]),
    Rule([(2, 2), (5, 3), (4, 2), (3, 3), (2, 2), (6, 4)], [(2, 2), (3, 2), (4, 3), (3, 3), (5, 2), (2, 2)]),
]

FAR = [10 ** 6, 10 ** 9 + 7, 10 ** 18 - 1, 10 ** 30, 10 ** 30 + 1, 2 ** 200, 3 ** 150 - 1, 10 ** 300]
NO_RULES = [None, 3, "rule", [(2, 2)], ([], [(2, 2)]), Rule]
NO_NUMBERS = [-1, True, False, None, "1", 1.0, [1], (1,), -10 ** 30]
