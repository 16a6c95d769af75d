"""Points 1 to 4: yards, their ties, their shy lamps, and what their buttons turn."""

import itertools

from lampyard.errors import Alone, NoLamp, NoYard, Tied, Untied
from lampyard.yard import Yard
from tests.helper import LampCase, all_told, built, every_yard

SIZES = (1, 2, 3, 7, 12, 23, 24)
FAR = (10 ** 20, -10 ** 20, 10 ** 5000, -10 ** 5000)


def no_lamps(many):
    return (-1, -many, -many - 1, many, many + 1) + FAR


def some_yard():
    return built(6, ((0, 5), (3, 1), (1, 5), (4, 5)), (1, 2))


class NewYardTest(LampCase):
    def test_a_new_yard_has_its_lamps_no_ties_and_none_shy(self):
        for many in SIZES:
            with self.subTest(many=many):
                yard = Yard(many)
                self.assertEqual(yard.many, many)
                for one, other in itertools.permutations(range(many), 2):
                    self.assertIs(yard.is_tied(one, other), False)
                for lamp in range(many):
                    self.assertIs(yard.is_shy(lamp), False)
                    self.assertEqual(yard.turns(lamp), [lamp])

    def test_every_number_from_1_to_24_is_taken(self):
        self.assertEqual([Yard(many).many for many in range(1, 25)], list(range(1, 25)))

    def test_other_numbers_are_refused(self):
        for many in (0, -1, -24, 25, 26, 48, 100) + FAR:
            with self.subTest(digits=many.bit_length(), low=many < 1):
                self.refused(NoYard, Yard, many)


class TieTest(LampCase):
    def test_a_tie_is_seen_from_both_lamps_and_gives_back_nothing(self):
        for one, other in itertools.permutations((0, 1, 4, 23), 2):
            with self.subTest(one=one, other=other):
                yard = Yard(24)
                self.assertIsNone(yard.tie(one, other))
                self.assertIs(yard.is_tied(one, other), True)
                self.assertIs(yard.is_tied(other, one), True)

    def test_untying_is_seen_from_both_lamps_and_gives_back_nothing(self):
        for one, other in itertools.permutations((0, 1, 4, 23), 2):
            for first, second in ((one, other), (other, one)):
                with self.subTest(one=one, other=other, first=first):
                    yard = Yard(24)
                    yard.tie(one, other)
                    self.assertIsNone(yard.untie(first, second))
                    self.assertEqual(all_told(yard), all_told(Yard(24)))

    def test_only_the_two_lamps_are_tied_or_untied(self):
        yard = Yard(5)
        pairs = list(itertools.combinations(range(5), 2))
        tied = {}
        for change, answer in ((yard.tie, True), (yard.untie, False)):
            for pair in pairs:
                change(*pair)
                tied[pair] = answer
                for one, other in pairs:
                    self.assertIs(yard.is_tied(one, other), tied.get((one, other), False))
                    self.assertIs(yard.is_tied(other, one), tied.get((one, other), False))

    def test_lamps_are_tied_again_behind_an_untying(self):
        yard = Yard(3)
        yard.tie(0, 2)
        yard.untie(0, 2)
        yard.tie(2, 0)
        self.assertIs(yard.is_tied(0, 2), True)
        self.assertIs(yard.is_tied(0, 1), False)

    def test_ties_and_shyness_dont_change_each_other(self):
        yard = Yard(3)
        yard.set_shy(0)
        yard.tie(0, 1)
        self.assertEqual([yard.is_shy(lamp) for lamp in range(3)], [True, False, False])
        yard.set_shy(1)
        yard.set_shy(0, False)
        self.assertIs(yard.is_tied(0, 1), True)
        yard.untie(0, 1)
        self.assertEqual([yard.is_shy(lamp) for lamp in range(3)], [False, True, False])

    def test_a_second_yard_stays_as_it_was(self):
        first, second = some_yard(), Yard(6)
        before = all_told(second)
        first.tie(0, 1)
        first.untie(4, 5)
        first.set_shy(3)
        first.set_shy(1, False)
        self.assertEqual(all_told(second), before)


class TieRefusalTest(LampCase):
    def asks(self, yard):
        return (yard.tie, yard.untie, yard.is_tied)

    def test_a_number_that_is_no_lamps_is_refused_at_either_place(self):
        yard = some_yard()
        for call in self.asks(yard):
            for wrong, lamp in itertools.product(no_lamps(6), (0, 1, 5)):
                with self.subTest(call=call.__name__, low=wrong < 0, lamp=lamp):
                    self.refused_unchanged(yard, NoLamp, call, wrong, lamp)
                    self.refused_unchanged(yard, NoLamp, call, lamp, wrong)

    def test_no_lamp_goes_ahead_of_alone(self):
        yard = some_yard()
        for call in self.asks(yard):
            for one, other in itertools.product(no_lamps(6), repeat=2):
                with self.subTest(call=call.__name__, low=one < 0, same=one == other):
                    self.refused_unchanged(yard, NoLamp, call, one, other)

    def test_one_lamp_twice_is_refused_with_alone_whatever_is_tied(self):
        yard = some_yard()
        for call in self.asks(yard):
            for lamp in range(6):
                with self.subTest(call=call.__name__, lamp=lamp):
                    self.refused_unchanged(yard, Alone, call, lamp, lamp)

    def test_the_only_lamp_has_no_other(self):
        yard = Yard(1)
        for call in self.asks(yard):
            with self.subTest(call=call.__name__):
                self.refused_unchanged(yard, Alone, call, 0, 0)
                self.refused_unchanged(yard, NoLamp, call, 0, 1)
                self.refused_unchanged(yard, NoLamp, call, -1, 0)

    def test_what_is_tied_is_refused_with_tied_and_what_isnt_with_untied(self):
        yard = some_yard()
        for one, other in itertools.permutations(range(6), 2):
            with self.subTest(one=one, other=other):
                if yard.is_tied(one, other):
                    self.refused_unchanged(yard, Tied, yard.tie, one, other)
                else:
                    self.refused_unchanged(yard, Untied, yard.untie, one, other)

    def test_untied_lamps_are_not_untied_again(self):
        yard = some_yard()
        yard.untie(5, 0)
        self.refused_unchanged(yard, Untied, yard.untie, 0, 5)
        self.refused_unchanged(yard, Untied, yard.untie, 5, 0)


class ShyTest(LampCase):
    def test_a_lamp_is_set_shy_alone_and_gives_back_nothing(self):
        for lamp in (0, 3, 23):
            with self.subTest(lamp=lamp):
                yard = Yard(24)
                self.assertIsNone(yard.set_shy(lamp))
                for other in range(24):
                    self.assertIs(yard.is_shy(other), other == lamp)

    def test_the_answer_says_which(self):
        yard = Yard(2)
        for answer in (True, False, False, True, True, False):
            self.assertIsNone(yard.set_shy(1, answer))
            self.assertIs(yard.is_shy(1), answer)
            self.assertIs(yard.is_shy(0), False)
        yard.set_shy(1, answer=True)
        self.assertIs(yard.is_shy(1), True)

    def test_set_the_same_twice_without_an_answer(self):
        yard = Yard(2)
        yard.set_shy(0)
        yard.set_shy(0)
        self.assertIs(yard.is_shy(0), True)
        self.assertEqual(yard.turns(0), [])

    def test_a_number_that_is_no_lamps_is_refused(self):
        yard = some_yard()
        for wrong in no_lamps(6):
            with self.subTest(low=wrong < 0, digits=wrong.bit_length()):
                self.refused_unchanged(yard, NoLamp, yard.set_shy, wrong)
                self.refused_unchanged(yard, NoLamp, yard.set_shy, wrong, True)
                self.refused_unchanged(yard, NoLamp, yard.set_shy, wrong, False)
                self.refused_unchanged(yard, NoLamp, yard.is_shy, wrong)


class TurnsTest(LampCase):
    def test_no_ties_some_and_all(self):
        yard = Yard(5)
        self.assertEqual(yard.turns(2), [2])
        yard.tie(2, 4)
        yard.tie(0, 2)
        self.assertEqual(yard.turns(2), [0, 2, 4])
        self.assertEqual(yard.turns(4), [2, 4])
        self.assertEqual(yard.turns(3), [3])
        yard.tie(3, 2)
        yard.tie(2, 1)
        self.assertEqual(yard.turns(2), [0, 1, 2, 3, 4])
        self.assertIs(type(yard.turns(2)), list)

    def test_all_of_24_tied(self):
        yard = Yard(24)
        for one, other in itertools.combinations(range(24), 2):
            yard.tie(other, one)
        for lamp in range(24):
            self.assertEqual(yard.turns(lamp), list(range(24)))
            yard.set_shy(lamp)
            self.assertEqual(yard.turns(lamp), [other for other in range(24) if other != lamp])

    def test_shy_and_shy_no_more(self):
        yard = Yard(4)
        yard.set_shy(1)
        self.assertEqual(yard.turns(1), [])
        yard.tie(3, 1)
        yard.tie(1, 0)
        self.assertEqual(yard.turns(1), [0, 3])
        self.assertEqual(yard.turns(3), [1, 3])
        yard.set_shy(1, False)
        self.assertEqual(yard.turns(1), [0, 1, 3])

    def test_behind_a_tie_taken_out(self):
        yard = Yard(4)
        yard.tie(1, 3)
        yard.tie(1, 2)
        yard.untie(3, 1)
        self.assertEqual([yard.turns(lamp) for lamp in range(4)], [[0], [1, 2], [1, 2], [3]])

    def test_ties_dont_reach_further_than_one_step(self):
        yard = Yard(3)
        yard.tie(0, 1)
        yard.tie(1, 2)
        self.assertEqual([yard.turns(lamp) for lamp in range(3)], [[0, 1], [0, 1, 2], [1, 2]])

    def test_every_yard_of_three_lamps(self):
        for ties, shy in every_yard(3):
            with self.subTest(ties=ties, shy=shy):
                yard = built(3, ties, shy)
                for lamp in range(3):
                    wanted = {other for pair in ties if lamp in pair for other in pair} - {lamp}
                    wanted = wanted if lamp in shy else wanted | {lamp}
                    self.assertEqual(yard.turns(lamp), sorted(wanted))

    def test_a_number_that_is_no_lamps_is_refused(self):
        for yard in (Yard(1), some_yard(), Yard(24)):
            for wrong in no_lamps(yard.many):
                with self.subTest(many=yard.many, low=wrong < 0, digits=wrong.bit_length()):
                    self.refused_unchanged(yard, NoLamp, yard.turns, wrong)

    def test_a_list_that_was_told_is_the_askers_own(self):
        yard = some_yard()
        before = all_told(yard)
        for lamp in range(6):
            told, again = yard.turns(lamp), yard.turns(lamp)
            told.append(7)
            told.insert(0, -3)
            self.assertEqual(again, before[3][lamp])
            again.clear()
        self.assertEqual(all_told(yard), before)

    def test_a_list_that_was_told_doesnt_follow_the_yard(self):
        yard = Yard(3)
        told = yard.turns(0)
        yard.tie(0, 2)
        yard.set_shy(0)
        self.assertEqual(told, [0])
