"""Points 1, 5 and 6: lights behind presses, and games."""

import itertools

from lampyard.errors import NoLamp, NoPress
from lampyard.pressing import Game, pressed
from lampyard.yard import Yard
from tests.helper import LampCase, all_turns, built, every_yard, lit_in


def no_lamps(many):
    return (-1, -many, many, many + 1, 10 ** 20, -10 ** 20, 10 ** 5000)


class PressingCase(LampCase):
    def assert_light(self, told, wanted):
        self.assertIs(type(told), list)
        self.assertEqual(told, wanted)
        for lit in told:
            self.assertIs(type(lit), bool)


class PressedTest(PressingCase):
    def setUp(self):
        self.yard = built(5, ((0, 1), (1, 2), (4, 1)), (2, 4))
        self.light = lit_in(5, (1, 3))

    def test_one_press_turns_what_the_button_turns(self):
        wanted = ([0, 3], [0, 2, 3, 4], [3], [1], [3])
        for lamp in range(5):
            with self.subTest(lamp=lamp):
                self.assert_light(pressed(self.yard, self.light, [lamp]), lit_in(5, wanted[lamp]))

    def test_no_presses_tell_a_light_of_its_own(self):
        told = pressed(self.yard, self.light, [])
        self.assert_light(told, [False, True, False, True, False])
        told[0] = True
        self.assertEqual(self.light, lit_in(5, (1, 3)))

    def test_more_than_once_and_in_another_order(self):
        self.assert_light(pressed(self.yard, self.light, [3, 0]), lit_in(5, [0]))
        self.assert_light(pressed(self.yard, self.light, [0, 3]), lit_in(5, [0]))
        self.assert_light(pressed(self.yard, self.light, [3, 1, 0, 1]), lit_in(5, [0]))
        self.assert_light(pressed(self.yard, self.light, [0, 0, 0, 3]), lit_in(5, [0]))
        self.assert_light(pressed(self.yard, self.light, [3, 3]), self.light)

    def test_the_only_lamp(self):
        self.assert_light(pressed(Yard(1), [False], [0]), [True])
        self.assert_light(pressed(Yard(1), [True], [0, 0, 0]), [False])
        self.assert_light(pressed(built(1, (), (0,)), [True], [0]), [True])

    def test_24_lamps_all_tied(self):
        yard = built(24, itertools.combinations(range(24), 2), (23,))
        self.assert_light(pressed(yard, [True] * 24, [0]), [False] * 24)
        self.assert_light(pressed(yard, [False] * 24, [0, 23]), lit_in(24, (23,)))
        self.assert_light(pressed(yard, [False] * 24, [5, 23, 5] * 1000 + [23]), lit_in(24, range(23)))

    def test_every_yard_and_light_of_three_lamps(self):
        for ties, shy in every_yard(3):
            yard = built(3, ties, shy)
            for light in itertools.product((False, True), repeat=3):
                for presses in itertools.product(range(3), repeat=3):
                    wanted = []
                    for lamp in range(3):
                        turners = [press for press in presses if tuple(sorted((press, lamp))) in ties
                                   or press == lamp and lamp not in shy]
                        wanted.append(light[lamp] != (len(turners) % 2 == 1))
                    self.assert_light(pressed(yard, list(light), list(presses)), wanted)

    def test_pressed_once_more_they_lead_back(self):
        for presses in ([], [1], [4, 0, 0, 2], [0, 1, 2, 3, 4, 1]):
            with self.subTest(presses=presses):
                there = pressed(self.yard, self.light, presses)
                self.assert_light(pressed(self.yard, there, presses), self.light)

    def test_what_is_handed_in_stays_and_what_is_told_is_its_own(self):
        presses = [1, 4, 1, 0]
        turns = all_turns(self.yard)
        first = pressed(self.yard, self.light, presses)
        second = pressed(self.yard, self.light, presses)
        self.assertEqual(self.light, lit_in(5, (1, 3)))
        self.assertEqual(presses, [1, 4, 1, 0])
        self.assertEqual(all_turns(self.yard), turns)
        wanted = list(second)
        first.clear()
        self.light[0] = True
        presses.append(3)
        self.assertEqual(second, wanted)

    def test_the_yard_as_it_is_now_is_pressed(self):
        pressed(self.yard, self.light, [3])
        self.yard.tie(3, 0)
        self.yard.set_shy(3)
        self.assert_light(pressed(self.yard, self.light, [3]), lit_in(5, (0, 1, 3)))

    def test_a_number_that_is_no_lamps_is_refused_at_every_place(self):
        turns = all_turns(self.yard)
        for wrong in no_lamps(5):
            for presses in ([wrong], [wrong, 0, 1], [0, wrong, 1], [0, 1, wrong], [wrong, wrong]):
                with self.subTest(low=wrong < 0, place=presses.index(wrong), many=len(presses)):
                    kept = list(presses)
                    self.refused(NoLamp, pressed, self.yard, self.light, presses)
                    self.assertEqual(presses, kept)
                    self.assertEqual(self.light, lit_in(5, (1, 3)))
                    self.assertEqual(all_turns(self.yard), turns)

    def test_the_first_number_beyond_the_last_lamp(self):
        self.refused(NoLamp, pressed, Yard(1), [True], [1])
        self.refused(NoLamp, pressed, Yard(24), [True] * 24, [24])


class GameTest(PressingCase):
    def setUp(self):
        self.yard = built(4, ((0, 1), (1, 3)), (3,))
        self.light = lit_in(4, (2,))
        self.game = Game(self.yard, self.light)

    def assert_game(self, game, lit, presses):
        self.assert_light(game.light(), lit_in(4, lit))
        self.assertIs(type(game.presses()), list)
        self.assertEqual(game.presses(), presses)

    def test_a_new_game_has_its_light_and_no_presses(self):
        self.assert_game(self.game, (2,), [])

    def test_pressing_button_by_button(self):
        self.assertIsNone(self.game.press(1))
        self.assert_game(self.game, (0, 1, 2, 3), [1])
        self.assertIsNone(self.game.press(3))
        self.assert_game(self.game, (0, 2, 3), [1, 3])
        self.game.press(1)
        self.assert_game(self.game, (1, 2), [1, 3, 1])
        self.game.press(1)
        self.assert_game(self.game, (0, 2, 3), [1, 3, 1, 1])

    def test_taking_back_goes_from_the_last_and_tells_the_lamp(self):
        lights = []
        presses = [1, 3, 0, 0, 2, 3]
        for lamp in presses:
            lights.append(self.game.light())
            self.game.press(lamp)
        for many in reversed(range(len(presses))):
            self.assertEqual(self.game.back(), presses[many])
            self.assert_light(self.game.light(), lights[many])
            self.assertEqual(self.game.presses(), presses[:many])
        self.refused(NoPress, self.game.back)
        self.assert_game(self.game, (2,), [])

    def test_pressing_and_taking_back_in_turn(self):
        self.game.press(0)
        self.game.press(1)
        self.assertEqual(self.game.back(), 1)
        self.assert_game(self.game, (0, 1, 2), [0])
        self.game.press(2)
        self.assert_game(self.game, (0, 1), [0, 2])
        self.assertEqual(self.game.back(), 2)
        self.assertEqual(self.game.back(), 0)
        self.assert_game(self.game, (2,), [])

    def test_nothing_pressed_yet_is_refused_and_the_game_goes_on(self):
        self.refused(NoPress, self.game.back)
        self.assert_game(self.game, (2,), [])
        self.game.press(0)
        self.assert_game(self.game, (0, 1, 2), [0])
        self.assertEqual(self.game.back(), 0)
        self.refused(NoPress, self.game.back)
        self.game.press(2)
        self.assert_game(self.game, (), [2])

    def test_a_press_that_is_no_lamps_is_refused_and_the_game_stays(self):
        for wrong in no_lamps(4):
            with self.subTest(low=wrong < 0, digits=wrong.bit_length()):
                game = Game(self.yard, self.light)
                self.refused(NoLamp, game.press, wrong)
                self.assert_game(game, (2,), [])
                self.refused(NoPress, game.back)
                game.press(0)
                self.refused(NoLamp, game.press, wrong)
                self.assert_game(game, (0, 1, 2), [0])
                self.assertEqual(game.back(), 0)
                self.assert_game(game, (2,), [])

    def test_the_first_number_beyond_the_last_lamp(self):
        self.refused(NoLamp, Game(Yard(1), [True]).press, 1)
        self.refused(NoLamp, Game(Yard(24), [True] * 24).press, 24)

    def test_the_last_of_24_lamps(self):
        game = Game(Yard(24), [False] * 24)
        game.press(23)
        self.assert_light(game.light(), lit_in(24, (23,)))
        self.assertEqual(game.back(), 23)

    def test_two_games_of_one_yard_dont_disturb_each_other(self):
        other = Game(self.yard, self.light)
        self.game.press(0)
        other.press(2)
        other.press(3)
        self.assert_game(self.game, (0, 1, 2), [0])
        self.assert_game(other, (1,), [2, 3])
        self.assertEqual(self.game.back(), 0)
        self.refused(NoPress, self.game.back)
        self.assert_game(other, (1,), [2, 3])

    def test_a_yard_changed_later_changes_nothing_in_the_game(self):
        self.game.press(1)
        self.yard.tie(0, 2)
        self.yard.untie(1, 0)
        self.yard.set_shy(3, False)
        self.yard.set_shy(1)
        self.assert_game(self.game, (0, 1, 2, 3), [1])
        self.game.press(3)
        self.assert_game(self.game, (0, 2, 3), [1, 3])
        self.game.press(0)
        self.assert_game(self.game, (1, 2, 3), [1, 3, 0])
        self.assertEqual([self.game.back() for _ in range(3)], [0, 3, 1])
        self.assert_game(self.game, (2,), [])

    def test_a_new_game_has_the_yard_as_it_is_then(self):
        self.yard.untie(1, 3)
        self.yard.set_shy(0)
        game = Game(self.yard, self.light)
        game.press(0)
        game.press(3)
        self.assert_game(game, (1, 2), [0, 3])

    def test_a_light_changed_later_changes_nothing_in_the_game(self):
        self.light[0] = True
        self.light.pop()
        self.assert_game(self.game, (2,), [])
        self.game.press(0)
        self.assert_game(self.game, (0, 1, 2), [0])

    def test_a_game_changes_neither_the_light_nor_the_yard_handed_in(self):
        turns = all_turns(self.yard)
        for lamp in (0, 1, 2, 3, 1):
            self.game.press(lamp)
        self.game.back()
        self.assertEqual(self.light, lit_in(4, (2,)))
        self.assertEqual(all_turns(self.yard), turns)

    def test_a_list_that_was_told_is_the_askers_own(self):
        self.game.press(0)
        for ask in (self.game.light, self.game.presses):
            told, again = ask(), ask()
            wanted = list(again)
            told.append(True)
            told[0] = False
            self.assertEqual(again, wanted)
            again.clear()
        self.assert_game(self.game, (0, 1, 2), [0])
        self.assertEqual(self.game.back(), 0)
        self.assert_game(self.game, (2,), [])

    def test_a_list_that_was_told_doesnt_follow_the_game(self):
        light, presses = self.game.light(), self.game.presses()
        self.game.press(0)
        self.assertEqual((light, presses), (lit_in(4, (2,)), []))
