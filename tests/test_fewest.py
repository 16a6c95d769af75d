"""Points 1 and 8: the way of fewest buttons."""

import itertools

from lampyard.errors import TooMany
from lampyard.fewest import fewest
from lampyard.pressing import pressed
from lampyard.yard import Yard
from tests.helper import LampCase, all_told, built, every_yard, lit_in, pairs, some_lights, subsets, yards_of


def searched(yard, light):
    """For each light that can be reached the first set of buttons that leads there, the smaller ones searched first."""
    found = {}
    for buttons in subsets(range(yard.many)):
        found.setdefault(tuple(pressed(yard, light, buttons)), buttons)
    return found


class FewestTest(LampCase):
    def assert_fewest(self, yard, light, wished, wanted):
        told = fewest(yard, light, wished)
        self.assertEqual(told, wanted)
        if wanted is not None:
            self.assert_rising(told, yard.many)

    def assert_all_wishes(self, yard, light):
        found = searched(yard, light)
        for wished in itertools.product((False, True), repeat=yard.many):
            self.assert_fewest(yard, light, list(wished), found.get(wished))

    def test_every_yard_and_wish_of_at_most_four_lamps(self):
        for many in (1, 2, 3, 4):
            for ties, shy in every_yard(many):
                with self.subTest(many=many, ties=ties, shy=shy):
                    self.assert_all_wishes(built(many, ties, shy), lit_in(many, (0, 2)))

    def test_every_wish_in_yards_of_five_to_seven_lamps(self):
        for many in (5, 6, 7):
            for name, yard in yards_of(many):
                with self.subTest(yard=name):
                    self.assert_all_wishes(yard, some_lights(many)[-1])

    def test_some_wishes_in_yards_of_eight_and_nine_lamps(self):
        for many in (8, 9):
            for name, yard in yards_of(many):
                with self.subTest(yard=name):
                    light = some_lights(many)[-1]
                    found = searched(yard, light)
                    for wished in some_lights(many) + [list(wished) for wished in list(found)[::9]]:
                        self.assert_fewest(yard, light, wished, found.get(tuple(wished)))

    def test_the_empty_list_from_a_light_to_itself(self):
        for many in range(1, 10):
            for name, yard in yards_of(many):
                with self.subTest(yard=name):
                    for light in some_lights(many):
                        self.assert_fewest(yard, light, list(light), [])
                        self.assert_fewest(yard, light, light, [])

    def test_the_first_of_several_as_small(self):
        self.assert_fewest(built(2, ((0, 1),)), [True, True], [False, False], [0])
        square = built(4, ((0, 1), (0, 2), (1, 3), (2, 3)), range(4))
        self.assert_fewest(square, [True] * 4, [False] * 4, [0, 1])
        crossed = built(4, ((0, 1), (2, 3)))
        self.assert_fewest(crossed, [True] * 4, [False] * 4, [0, 2])
        self.assert_fewest(built(9, pairs(9)), [True] * 9, [False] * 9, [0])

    def test_fewer_buttons_go_ahead_of_a_lesser_lamp(self):
        yard = built(3, ((0, 1), (0, 2), (1, 2)), (0, 1))
        self.assertEqual(pressed(yard, [False] * 3, [0, 1]), [True, True, False])
        self.assert_fewest(yard, [False] * 3, [True] * 3, [2])
        star = built(9, [(lamp, 8) for lamp in range(8)])
        self.assert_fewest(star, [True] * 9, [False] * 9, [8])

    def test_none_where_there_is_no_way(self):
        self.assertIsNone(fewest(built(1, (), (0,)), [True], [False]))
        self.assertIsNone(fewest(built(2, ((0, 1),)), [True, False], [False, False]))
        self.assertIsNone(fewest(built(9, pairs(9)), [True] * 9, lit_in(9, (4,))))

    def test_more_than_nine_lamps_are_refused_whether_there_is_a_way_or_not(self):
        for many in (10, 11, 23, 24):
            for shy in ((), range(many)):
                yard = built(many, (), shy)
                light, dark = [True] * many, [False] * many
                with self.subTest(many=many, shy=len(shy)):
                    self.refused_unchanged(yard, TooMany, fewest, yard, light, dark)
                    self.refused_unchanged(yard, TooMany, fewest, yard, light, light)
                    self.assertEqual((light, dark), ([True] * many, [False] * many))

    def test_nine_lamps_are_told(self):
        self.assert_fewest(Yard(9), [True] * 9, [False] * 9, list(range(9)))

    def test_the_yard_as_it_is_now_is_asked(self):
        yard = Yard(2)
        light, dark = [True, True], [False, False]
        self.assert_fewest(yard, light, dark, [0, 1])
        yard.tie(0, 1)
        self.assert_fewest(yard, light, dark, [0])
        yard.set_shy(0)
        self.assert_fewest(yard, light, dark, [1])
        yard.set_shy(1)
        self.assert_fewest(yard, light, dark, [0, 1])
        yard.untie(0, 1)
        self.assert_fewest(yard, light, dark, None)

    def test_what_is_handed_in_stays_and_what_is_told_is_the_askers_own(self):
        for name, yard in yards_of(5):
            before = all_told(yard)
            with self.subTest(yard=name):
                for light, wished in itertools.product(some_lights(5), repeat=2):
                    handed = list(light), list(wished)
                    told, again = fewest(yard, *handed), fewest(yard, *handed)
                    if told is not None:
                        wanted = list(again)
                        told.append(3)
                        told.insert(0, -1)
                        self.assertEqual(again, wanted)
                        again.clear()
                        self.assertEqual(fewest(yard, *handed), wanted)
                    self.assertEqual(handed, (light, wished))
                    self.assertEqual(all_told(yard), before)

    def test_a_list_that_was_told_doesnt_follow_what_was_handed_in(self):
        yard, light, wished = Yard(3), [True, True, False], [False] * 3
        told = fewest(yard, light, wished)
        light.clear()
        wished[2] = True
        yard.tie(0, 2)
        self.assertEqual(told, [0, 1])
