"""Points 1 and 11: yards written and read."""

import itertools

from lampyard.errors import NoNote, Tied
from lampyard.notes import read, shown
from lampyard.yard import Yard
from tests.helper import LampCase, all_told, built, every_yard, pairs, yards_of

SIGNS = "\n\t" + "".join(chr(number) for number in range(ord(" "), ord("~") + 1) if chr(number) != "%")


def written(many, ties, shy):
    """The text of a yard, put together from its ties rather than from the yard."""
    lines = []
    for lamp in range(many):
        line = "shy" if lamp in shy else "lamp"
        for one, other in sorted(ties):
            line += f" {one}" if other == lamp else ""
        lines.append(line)
    return "\n".join(lines)


def one_sign_off(text):
    """Every text that has one sign less, more, or other."""
    for place in range(len(text) + 1):
        yield text[:place] + text[place + 1:]
        for sign in SIGNS:
            yield text[:place] + sign + text[place:]
            yield text[:place] + sign + text[place + 1:]


class ShownTest(LampCase):
    def test_line_by_line(self):
        yard = built(5, ((3, 0), (1, 4), (0, 1), (4, 3), (4, 0)), (1, 3))
        self.assertEqual(shown(yard), "lamp\nshy 0\nlamp\nshy 0\nlamp 0 1 3")
        self.assertIs(type(shown(yard)), str)

    def test_the_only_lamp(self):
        self.assertEqual(shown(Yard(1)), "lamp")
        self.assertEqual(shown(built(1, (), (0,))), "shy")

    def test_no_ties_and_all_of_24_lamps(self):
        self.assertEqual(shown(Yard(24)), "\n".join(["lamp"] * 24))
        lines = shown(built(24, pairs(24), (23,))).split("\n")
        self.assertEqual(len(lines), 24)
        self.assertEqual(lines[10], "lamp 0 1 2 3 4 5 6 7 8 9")
        self.assertEqual(lines[11], "lamp 0 1 2 3 4 5 6 7 8 9 10")
        self.assertEqual(lines[23], "shy 0 1 2 3 4 5 6 7 8 9 10 11 12 13 14 15 16 17 18 19 20 21 22")

    def test_numbers_of_one_and_of_two_figures_rise_as_numbers(self):
        yard = built(22, ((21, 10), (21, 9), (21, 2), (21, 20), (21, 1)))
        self.assertEqual(shown(yard).split("\n")[21], "lamp 1 2 9 10 20")

    def test_every_yard_of_at_most_three_lamps(self):
        for many in (1, 2, 3):
            for ties, shy in every_yard(many):
                self.assertEqual(shown(built(many, ties, shy)), written(many, ties, shy))

    def test_the_yard_as_it_is_now_is_written_and_stays(self):
        yard = built(3, ((0, 1), (1, 2)), (0,))
        before = all_told(yard)
        self.assertEqual(shown(yard), "shy\nlamp 0\nlamp 1")
        self.assertEqual(all_told(yard), before)
        yard.untie(0, 1)
        yard.tie(0, 2)
        yard.set_shy(0, False)
        yard.set_shy(2)
        self.assertEqual(shown(yard), "lamp\nlamp\nshy 0 1")


class ReadTest(LampCase):
    def test_what_is_written_is_read_to_the_same_yard(self):
        for many in range(1, 25):
            for name, yard in yards_of(many):
                with self.subTest(yard=name):
                    again = read(shown(yard))
                    self.assertIs(type(again), Yard)
                    self.assertEqual(all_told(again), all_told(yard))

    def test_every_yard_of_at_most_three_lamps(self):
        for many in (1, 2, 3):
            for ties, shy in every_yard(many):
                yard = read(written(many, ties, shy))
                self.assertEqual(all_told(yard), all_told(built(many, ties, shy)))

    def test_line_by_line(self):
        yard = read("lamp\nshy 0\nlamp\nshy 0\nlamp 0 1 3")
        wanted = built(5, ((0, 1), (0, 3), (0, 4), (1, 4), (3, 4)), (1, 3))
        self.assertEqual(all_told(yard), all_told(wanted))

    def test_numbers_of_two_figures(self):
        yard = read("\n".join(["lamp"] * 23 + ["shy 2 9 10 22"]))
        self.assertEqual(yard.turns(23), [2, 9, 10, 22])
        self.assertEqual(yard.turns(1), [1])

    def test_a_yard_that_was_read_is_tied_further(self):
        yard = read("lamp\nshy 0\nlamp")
        self.refused_unchanged(yard, Tied, yard.tie, 0, 1)
        yard.tie(0, 2)
        yard.untie(0, 1)
        yard.set_shy(1, False)
        yard.set_shy(2)
        self.assertEqual(shown(yard), "lamp\nlamp\nshy 0")

    def test_each_reading_tells_a_yard_of_its_own(self):
        first, second = read("lamp\nlamp 0"), read("lamp\nlamp 0")
        first.untie(0, 1)
        first.set_shy(0)
        self.assertEqual(shown(second), "lamp\nlamp 0")
        self.assertEqual(shown(read("lamp\nlamp 0")), "lamp\nlamp 0")


class ReadRefusalTest(LampCase):
    def assert_refused(self, *texts):
        for text in texts:
            with self.subTest(text=text[:60]):
                self.refused(NoNote, read, text)

    def at_each_line(self, line):
        """The line as the first, as one between and as the last."""
        self.assert_refused(line, line + "\nlamp\nshy", "lamp\n" + line + "\nshy", "shy\nlamp\n" + line)

    def test_another_word_capitals_or_no_word(self):
        for word in ("lamps", "lam", "amp", "lampshy", "shylamp", "shyer", "sh", "light", "yard", "l", "0", "-"):
            self.at_each_line(word)
        for word in ("Lamp", "LAMP", "lamP", "Shy", "SHY", "sHy"):
            self.at_each_line(word)
        for line in ("lamp shy", "shy lamp", "lamp lamp", "shy shy"):
            self.at_each_line(line)
        self.assert_refused("lamp\n0", "lamp\n 0", "shy\n0 lamp", "lamp\n0 0", "lamp\nlamp0", "lamp\nshy0")

    def test_the_empty_text_and_empty_lines(self):
        self.at_each_line("")
        self.assert_refused("\n", "\n\n", "lamp\n\nlamp", "\nlamp", "\n".join([""] * 24), "\n".join([""] * 25))

    def test_a_line_end_behind_the_last_line(self):
        for name, yard in itertools.chain(yards_of(1), yards_of(4), yards_of(23), yards_of(24)):
            with self.subTest(yard=name):
                self.assert_refused(shown(yard) + "\n", shown(yard) + "\n\n", shown(yard) + "\n ")

    def test_a_blank_too_many_or_a_tab(self):
        for line in (" lamp", "lamp ", " lamp ", "lamp  ", "la mp", "s hy", " shy", "shy ", " ", "  ", "\t", "lamp\t"):
            self.at_each_line(line)
        for line in ("\tlamp", "sh\ty", "\tshy", "shy\t"):
            self.at_each_line(line)
        for line in (" lamp 0", "lamp  0", "lamp 0 ", "lamp 0  1", " lamp 0 1", "lamp 0 1 ", "lamp  0 1", "lamp 0\t1"):
            self.assert_refused("lamp\nlamp\n" + line, "lamp\nshy\n" + line + "\nlamp")
        for line in ("lamp\t0", "\tlamp 0", "lamp 0\t", "lamp \t0", "lamp\t 0", "lamp 0 \t1", "shy\t0 1"):
            self.assert_refused("lamp\nlamp\n" + line, "lamp\nshy\n" + line + "\nlamp")

    def test_a_lamps_own_number_or_a_greater_one(self):
        self.at_each_line("lamp 3")
        self.assert_refused("lamp 0", "shy 0", "lamp 1\nlamp", "lamp 1\nlamp 0", "lamp\nlamp 1", "lamp\nlamp 0 1")
        self.assert_refused("lamp\nlamp 2\nlamp", "lamp\nshy 0 2\nlamp", "lamp\nlamp 24", "lamp\nlamp 100")
        self.assert_refused("\n".join(["lamp"] * 23 + ["lamp 23"]), "\n".join(["lamp"] * 23 + ["lamp 24"]))
        self.assert_refused("\n".join(["lamp"] * 10 + ["lamp 10"]))
        self.assert_refused("lamp\nlamp " + "9" * 1900, "lamp\nlamp " + "0" * 1900)

    def test_a_nought_ahead_of_a_figure_a_sign_or_letters(self):
        for number in ("00", "01", "000", "-0", "+0", "-1", "+1", "--1", "0.", "0.0", "1.0", "1e0", "0x1", "0_0"):
            self.assert_refused("lamp\nlamp\nlamp " + number, "lamp\nlamp\nshy " + number + "\nlamp")
        for number in ("_1", "1_", "a", "o", "O", "l", "one", "nought", "0a", "a0", "(0)", "0,", "0,1", ".", "-"):
            self.assert_refused("lamp\nlamp\nlamp " + number, "lamp\nlamp\nshy " + number + "\nlamp")
        for number in ("010", "1_0", "+10", "10a", "1 0", "10.0"):
            self.assert_refused("\n".join(["lamp"] * 11 + ["lamp " + number]))

    def test_a_number_twice_or_before_a_lesser_one(self):
        self.assert_refused("lamp\nlamp 0 0", "lamp\nlamp\nlamp 0 1 1", "lamp\nlamp\nlamp 0 0 1")
        self.assert_refused("lamp\nlamp\nlamp 1 0", "lamp\nlamp\nshy 0 1 0", "lamp\nlamp\nlamp\nshy 0 2 1")
        self.assert_refused("\n".join(["lamp"] * 11 + ["lamp 10 9"]), "\n".join(["lamp"] * 11 + ["lamp 1 10 2"]))

    def test_twenty_five_lines_and_more(self):
        self.assertEqual(read("\n".join(["lamp"] * 24)).many, 24)
        for many in (25, 26, 48, 400):
            self.assert_refused("\n".join(["lamp"] * many), "\n".join(["shy"] * many))
        self.assert_refused(shown(built(24, pairs(24))) + "\nlamp", shown(built(24, pairs(24))) + "\nlamp 0 24")

    def test_long_texts_of_one_sign(self):
        for sign in SIGNS:
            self.assert_refused(sign, sign * 2000)

    def test_every_text_one_sign_off_is_refused_unless_it_is_another_yards(self):
        for many, start in ((1, "shy"), (2, "lamp\nshy 0"), (3, "shy\nlamp 0\nlamp 0 1")):
            yards = [written(many, ties, shy) for ties, shy in every_yard(many)]
            for text in one_sign_off(start):
                if text in yards:
                    self.assertEqual(shown(read(text)), text)
                else:
                    self.assert_refused(text)

    def test_every_text_one_sign_off_with_numbers_of_two_figures(self):
        head, line = "lamp\n" * 12, "lamp 1 10 11"
        yards = [f"lamp {number} 10 11" for number in range(10)]
        for text in one_sign_off(line):
            if text in yards:
                self.assertEqual(shown(read(head + text)), head + text)
            else:
                self.assert_refused(head + text)
