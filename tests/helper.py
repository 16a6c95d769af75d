"""What the tests share: yards of many forms, all that a yard tells, and how a refusal is asked for."""

import itertools
import random
import unittest

from lampyard.errors import LampError
from lampyard.yard import Yard


def built(many, ties=(), shy=()):
    yard = Yard(many)
    for one, other in ties:
        yard.tie(one, other)
    for lamp in shy:
        yard.set_shy(lamp)
    return yard


def lit_in(many, lamps):
    return [lamp in lamps for lamp in range(many)]


def all_turns(yard):
    return [yard.turns(lamp) for lamp in range(yard.many)]


def all_told(yard):
    """All that a yard can be asked, asked anew."""
    lamps = range(yard.many)
    ties = [(one, other, yard.is_tied(one, other)) for one in lamps for other in lamps if one != other]
    return yard.many, ties, [yard.is_shy(lamp) for lamp in lamps], all_turns(yard)


def pairs(many):
    return list(itertools.combinations(range(many), 2))


def subsets(things):
    """All subsets, the smaller ones first, those as small in the order of their lists."""
    return [list(some) for size in range(len(things) + 1) for some in itertools.combinations(things, size)]


def every_yard(many):
    """The ties and the shy lamps of every yard of so many lamps."""
    return itertools.product(subsets(pairs(many)), subsets(range(many)))


def tie_forms(many):
    """No ties, few, many and all. The seed is written, so every run has the same ones."""
    source = random.Random(many)
    chain = [(lamp, lamp + 1) for lamp in range(many - 1)]
    star = [(0, lamp) for lamp in range(1, many)]
    grid = chain + [(lamp, lamp + 5) for lamp in range(many - 5)]
    few = [pair for pair in pairs(many) if source.random() < 0.15]
    most = [pair for pair in pairs(many) if source.random() < 0.8]
    return {"none": [], "chain": chain, "star": star, "grid": grid, "few": few, "most": most, "all": pairs(many)}


def shy_forms(many):
    return {"none": [], "last": [many - 1], "some": list(range(0, many, 3)), "all": list(range(many))}


def yards_of(many):
    """Yards of so many lamps, tied and shy in all these forms, each with the names of its forms."""
    for (tied, ties), (shyness, shy) in itertools.product(tie_forms(many).items(), shy_forms(many).items()):
        yield f"{many} lamps, ties {tied}, shy {shyness}", built(many, ties, shy)


def some_lights(many):
    source = random.Random(many + 100)
    drawn = [[source.random() < 0.5 for _ in range(many)] for _ in range(3)]
    return [[False] * many, [True] * many, lit_in(many, (0,)), lit_in(many, (many - 1,))] + drawn


class LampCase(unittest.TestCase):
    def refused(self, kind, call, *handed):
        """The very class is asked for, and it is asked twice: a refusal leaves nothing behind."""
        for _ in range(2):
            with self.assertRaises(LampError) as caught:
                call(*handed)
            self.assertIs(type(caught.exception), kind)

    def refused_unchanged(self, yard, kind, call, *handed):
        before = all_told(yard)
        self.refused(kind, call, *handed)
        self.assertEqual(all_told(yard), before)

    def assert_rising(self, told, many):
        """A rising list of lamps of a yard of so many."""
        self.assertIs(type(told), list)
        for lamp in told:
            self.assertIs(type(lamp), int)
        self.assertEqual(told, sorted(set(told)))
        self.assertEqual([lamp for lamp in told if lamp not in range(many)], [])
