"""Points 1, 7, 9 and 10: ways, reasons, quiet sets, and the way from all lit to all out."""

import itertools

from lampyard.errors import Shy
from lampyard.pressing import pressed
from lampyard.ways import all_out, quiet, way
from lampyard.yard import Yard
from tests.helper import LampCase, all_told, all_turns, built, every_yard, lit_in, pairs, some_lights, subsets
from tests.helper import tie_forms, yards_of


def differ(light, wished, lamps):
    return len([lamp for lamp in lamps if light[lamp] != wished[lamp]])


def put_together(sets):
    """The buttons that are in an odd number of the sets."""
    found = set()
    for buttons in sets:
        found ^= set(buttons)
    return sorted(found)


def searched_quiet(yard):
    """Every set of buttons that turns nothing, the empty one too, by a plain search."""
    dark = [False] * yard.many
    return [buttons for buttons in subsets(range(yard.many)) if pressed(yard, dark, buttons) == dark]


def how_many_apart(sets):
    """How many of the sets aren't had by putting earlier ones together, counted over numbers of bits."""
    leaders = []
    for lamps in sets:
        number = sum(1 << lamp for lamp in lamps)
        for leader in leaders:
            number = min(number, number ^ leader)
        if number:
            leaders.append(number)
    return len(leaders)


class WaysCase(LampCase):
    def assert_told(self, yard, light, wished):
        """What way tells is a way or a reason, as it says; which of the two is given back."""
        told = way(yard, light, wished)
        self.assertIs(type(told), tuple)
        self.assertEqual(len(told), 2)
        kind, lamps = told
        self.assertIn(kind, ("way", "reason"))
        self.assert_rising(lamps, yard.many)
        if kind == "way":
            self.assertEqual(pressed(yard, light, lamps), wished)
        else:
            for turned in all_turns(yard):
                self.assertEqual(len(set(turned) & set(lamps)) % 2, 0)
            self.assertEqual(differ(light, wished, lamps) % 2, 1)
        return kind

    def assert_quiet(self, yard):
        told = quiet(yard)
        self.assertIs(type(told), list)
        dark = [False] * yard.many
        for buttons in told:
            self.assert_rising(buttons, yard.many)
            self.assertGreater(len(buttons), 0)
            self.assertEqual(pressed(yard, dark, buttons), dark)
        return told


class WayTest(WaysCase):
    def test_yards_of_1_to_24_lamps(self):
        for many in range(1, 25):
            for name, yard in yards_of(many):
                with self.subTest(yard=name):
                    for light, wished in itertools.combinations(some_lights(many), 2):
                        self.assert_told(yard, light, wished)

    def test_where_presses_led_from_the_light_to_the_wished_one_it_is_a_way(self):
        for many in range(1, 25):
            for name, yard in yards_of(many):
                with self.subTest(yard=name):
                    for light, drawn in zip(some_lights(many), reversed(some_lights(many))):
                        presses = [lamp for lamp in range(many) if drawn[lamp]]
                        wished = pressed(yard, light, presses + presses[:1] * 2)
                        self.assertEqual(self.assert_told(yard, light, wished), "way")
                        self.assertEqual(self.assert_told(yard, wished, light), "way")

    def test_from_a_light_to_the_same_light_it_is_a_way(self):
        for many in range(1, 25):
            for name, yard in yards_of(many):
                with self.subTest(yard=name):
                    for light in some_lights(many):
                        self.assertEqual(self.assert_told(yard, light, list(light)), "way")
                        self.assertEqual(self.assert_told(yard, light, light), "way")

    def test_every_yard_and_all_lights_of_at_most_three_lamps(self):
        for many in (1, 2, 3):
            lights = [list(light) for light in itertools.product((False, True), repeat=many)]
            for ties, shy in every_yard(many):
                yard = built(many, ties, shy)
                with self.subTest(many=many, ties=ties, shy=shy):
                    for light in lights:
                        reached = [pressed(yard, light, buttons) for buttons in subsets(range(many))]
                        for wished in lights:
                            wanted = "way" if wished in reached else "reason"
                            self.assertEqual(self.assert_told(yard, light, wished), wanted)

    def test_every_light_wished_in_yards_of_six_lamps(self):
        for name, yard in yards_of(6):
            light = lit_in(6, (0, 4, 5))
            reached = [pressed(yard, light, buttons) for buttons in subsets(range(6))]
            with self.subTest(yard=name):
                for wished in itertools.product((False, True), repeat=6):
                    wanted = "way" if list(wished) in reached else "reason"
                    self.assertEqual(self.assert_told(yard, light, list(wished)), wanted)

    def test_where_there_is_one_alone_it_is_told(self):
        self.assertEqual(way(Yard(1), [False], [True]), ("way", [0]))
        self.assertEqual(way(Yard(1), [True], [True]), ("way", []))
        self.assertEqual(way(built(1, (), (0,)), [True], [False]), ("reason", [0]))
        self.assertEqual(way(Yard(4), lit_in(4, (0, 1)), lit_in(4, (1, 2, 3))), ("way", [0, 2, 3]))
        self.assertEqual(way(built(2, ((0, 1),)), [True, False], [False, False]), ("reason", [0, 1]))
        self.assertEqual(way(built(2, ((0, 1),), (0,)), [True, False], [False, False]), ("way", [0, 1]))
        chain = built(3, ((0, 1), (1, 2)), (0, 1, 2))
        self.assertEqual(way(chain, [True, False, False], [False] * 3), ("reason", [0, 2]))
        self.assertEqual(way(Yard(24), [True] * 24, [False] * 24), ("way", list(range(24))))

    def test_asked_twice_and_behind_another_wish(self):
        for name, yard in yards_of(11):
            lights = some_lights(11)
            with self.subTest(yard=name):
                first = [self.assert_told(yard, lights[4], wished) for wished in lights]
                again = [self.assert_told(yard, lights[4], wished) for wished in reversed(lights)]
                self.assertEqual(first, again[::-1])

    def test_the_yard_as_it_is_now_is_asked(self):
        yard = built(2, ((0, 1),))
        light, wished = [True, False], [False, False]
        self.assertEqual(self.assert_told(yard, light, wished), "reason")
        yard.set_shy(0)
        self.assertEqual(self.assert_told(yard, light, wished), "way")
        yard.set_shy(0, False)
        self.assertEqual(self.assert_told(yard, light, wished), "reason")
        yard.untie(0, 1)
        self.assertEqual(self.assert_told(yard, light, wished), "way")
        yard.tie(1, 0)
        self.assertEqual(self.assert_told(yard, light, wished), "reason")

    def test_every_step_of_a_yard_that_changes(self):
        yard = Yard(9)
        lights = some_lights(9)
        changes = [(yard.tie, pair) for pair in pairs(9)] + [(yard.set_shy, (lamp,)) for lamp in range(9)]
        changes += [(yard.untie, pair) for pair in pairs(9)] + [(yard.set_shy, (lamp, False)) for lamp in range(9)]
        for change, handed in changes:
            change(*handed)
            for light, wished in zip(lights, lights[1:]):
                self.assert_told(yard, light, wished)

    def test_what_is_handed_in_stays(self):
        for name, yard in yards_of(7):
            before = all_told(yard)
            with self.subTest(yard=name):
                for light, wished in itertools.permutations(some_lights(7), 2):
                    handed = list(light), list(wished)
                    way(yard, *handed)
                    self.assertEqual(handed, (light, wished))
                    self.assertEqual(all_told(yard), before)

    def test_a_list_that_was_told_is_the_askers_own(self):
        for name, yard in yards_of(7):
            before = all_told(yard)
            with self.subTest(yard=name):
                for light, wished in itertools.product(some_lights(7), repeat=2):
                    kept = list(light), list(wished)
                    told, again = way(yard, light, wished), way(yard, light, wished)
                    wanted = list(again[1])
                    told[1].append(3)
                    told[1].insert(0, -1)
                    self.assertEqual(again[1], wanted)
                    again[1].clear()
                    self.assert_told(yard, light, wished)
                    self.assertEqual((light, wished), kept)
                    self.assertEqual(all_told(yard), before)

    def test_a_list_that_was_told_doesnt_follow_what_was_handed_in(self):
        yard, light, wished = Yard(3), [True, True, False], [False] * 3
        told = way(yard, light, wished)
        light[0] = False
        wished[2] = True
        yard.tie(0, 2)
        yard.set_shy(1)
        self.assertEqual(told, ("way", [0, 1]))


class QuietTest(WaysCase):
    def assert_just_one_way(self, yard):
        told = self.assert_quiet(yard)
        had = sorted(put_together(some) for some in subsets(told))
        self.assertEqual(had, sorted(searched_quiet(yard)))

    def test_every_yard_of_at_most_four_lamps(self):
        for many in (1, 2, 3, 4):
            for ties, shy in every_yard(many):
                with self.subTest(many=many, ties=ties, shy=shy):
                    self.assert_just_one_way(built(many, ties, shy))

    def test_every_quiet_set_is_had_in_just_one_way(self):
        for many in (5, 6, 7, 8, 9):
            for name, yard in yards_of(many):
                with self.subTest(yard=name):
                    self.assert_just_one_way(yard)

    def test_yards_of_10_to_24_lamps_have_as_many_as_are_needed(self):
        for many in range(10, 25):
            for name, yard in yards_of(many):
                with self.subTest(yard=name):
                    told = self.assert_quiet(yard)
                    self.assertEqual(len(told), many - how_many_apart(all_turns(yard)))
                    self.assertEqual(how_many_apart(told), len(told))

    def test_none_where_only_the_empty_set_turns_nothing(self):
        for many in (1, 2, 9, 24):
            self.assertEqual(quiet(Yard(many)), [])
        self.assertEqual(quiet(built(2, ((0, 1),), (0, 1))), [])
        self.assertEqual(quiet(built(2, ((0, 1),), (1,))), [])

    def test_where_there_is_one_alone_it_is_told(self):
        self.assertEqual(quiet(built(1, (), (0,))), [[0]])
        self.assertEqual(quiet(built(2, ((0, 1),))), [[0, 1]])
        self.assertEqual(quiet(built(3, ((0, 1), (1, 2)), (0, 1, 2))), [[0, 2]])
        self.assertEqual(quiet(built(24, (), (23,))), [[23]])

    def test_the_most_and_the_largest(self):
        self.assertEqual(sorted(quiet(built(24, (), range(24)))), [[lamp] for lamp in range(24)])
        self.assertEqual(len(quiet(built(24, pairs(24)))), 23)

    def test_the_yard_as_it_is_now_is_asked(self):
        yard = built(3, ((0, 1),))
        self.assertEqual(quiet(yard), [[0, 1]])
        yard.set_shy(1)
        self.assertEqual(quiet(yard), [])
        yard.untie(0, 1)
        self.assertEqual(quiet(yard), [[1]])
        yard.set_shy(1, False)
        self.assertEqual(quiet(yard), [])

    def test_a_list_that_was_told_is_the_askers_own(self):
        for name, yard in yards_of(8):
            before = all_told(yard)
            with self.subTest(yard=name):
                told, again = quiet(yard), quiet(yard)
                wanted = [list(buttons) for buttons in again]
                for place, buttons in enumerate(told):
                    kept = [list(other) for other in told[place + 1:]]
                    buttons.append(5)
                    buttons.insert(0, -1)
                    self.assertEqual(told[place + 1:], kept)
                told.clear()
                self.assertEqual(again, wanted)
                self.assert_just_one_way(yard)
                self.assertEqual(all_told(yard), before)

    def test_there_is_a_way_just_where_the_lights_differ_evenly_in_each_quiet_set(self):
        for many in range(1, 25):
            for name, yard in yards_of(many):
                told = quiet(yard)
                with self.subTest(yard=name):
                    for light, wished in itertools.combinations(some_lights(many), 2):
                        even = all(differ(light, wished, lamps) % 2 == 0 for lamps in told)
                        self.assertEqual(way(yard, light, wished)[0], "way" if even else "reason")


class AllOutTest(WaysCase):
    def assert_all_out(self, yard):
        told = all_out(yard)
        self.assert_rising(told, yard.many)
        self.assertEqual(pressed(yard, [True] * yard.many, told), [False] * yard.many)

    def test_yards_of_1_to_24_lamps_however_they_are_tied(self):
        for many in range(1, 25):
            for name, ties in tie_forms(many).items():
                with self.subTest(many=many, ties=name):
                    self.assert_all_out(built(many, ties))

    def test_all_ties_of_at_most_five_lamps(self):
        for many in range(1, 6):
            for ties in subsets(pairs(many)):
                with self.subTest(many=many, ties=ties):
                    self.assert_all_out(built(many, ties))

    def test_where_there_is_one_alone_it_is_told(self):
        self.assertEqual(all_out(Yard(1)), [0])
        self.assertEqual(all_out(Yard(24)), list(range(24)))
        self.assertEqual(all_out(built(3, ((0, 1), (1, 2)))), [1])

    def test_a_shy_lamp_is_refused_even_where_there_is_a_way(self):
        for yard in (built(2, ((0, 1),), (0, 1)), built(2, ((0, 1),), (1,)), built(3, ((0, 1), (0, 2)), (2,))):
            light, dark = [True] * yard.many, [False] * yard.many
            self.assertEqual(self.assert_told(yard, light, dark), "way")
            self.refused_unchanged(yard, Shy, all_out, yard)

    def test_a_shy_lamp_is_refused_where_there_is_no_way(self):
        for yard in (built(1, (), (0,)), built(24, (), (23,)), built(3, ((0, 1),), (2,))):
            light, dark = [True] * yard.many, [False] * yard.many
            self.assertEqual(self.assert_told(yard, light, dark), "reason")
            self.refused_unchanged(yard, Shy, all_out, yard)

    def test_any_lamp_that_is_shy_and_shy_no_more(self):
        for many in (1, 2, 8, 24):
            for name, ties in tie_forms(many).items():
                yard = built(many, ties)
                with self.subTest(many=many, ties=name):
                    for lamp in range(many):
                        yard.set_shy(lamp)
                        self.refused_unchanged(yard, Shy, all_out, yard)
                        yard.set_shy(lamp, False)
                        self.assert_all_out(yard)

    def test_refused_until_the_last_shy_lamp_is_shy_no_more(self):
        yard = built(5, pairs(5), range(5))
        for lamp in (3, 0, 4, 1, 2):
            self.refused_unchanged(yard, Shy, all_out, yard)
            yard.set_shy(lamp, False)
        self.assert_all_out(yard)

    def test_the_yard_as_it_is_now_is_asked(self):
        yard = Yard(6)
        for change in (yard.tie, yard.untie):
            for pair in pairs(6):
                change(*pair)
                self.assert_all_out(yard)

    def test_a_list_that_was_told_is_the_askers_own(self):
        for name, ties in tie_forms(8).items():
            yard = built(8, ties)
            before = all_told(yard)
            with self.subTest(ties=name):
                told, again = all_out(yard), all_out(yard)
                wanted = list(again)
                told.append(7)
                told.insert(0, -1)
                self.assertEqual(again, wanted)
                again.clear()
                self.assert_all_out(yard)
                self.assertEqual(all_told(yard), before)
