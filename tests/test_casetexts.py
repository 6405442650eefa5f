"""Point [29]: cases that are written as texts, and texts that are read to cases or refused."""

import random
import unittest

from linecaster.bars import first_codes
from linecaster.cases import SIGNS, look_at_case
from linecaster.casetexts import read_case, shown_case
from linecaster.errors import CasterError, NoCase, NoText

PAIRS = (
    ([("a", 10, 5, 3)], "a 10 0000101 3"),
    ([("a", 1, 0, 0)], "a 1 0000000 0"),
    ([("z", 99, 127, 40)], "z 99 1111111 40"),
    ([("'", 9, 64, 9)], "' 9 1000000 9"),
    ([("-", 50, 1, 10)], "- 50 0000001 10"),
    ([("a", 10, 1, 5), ("n", 12, 2, 4), ("t", 7, 3, 4)], "a 10 0000001 5\nn 12 0000010 4\nt 7 0000011 4"),
    # The order of the rows is that of the channels, right or not.
    ([(".", 3, 127, 0), (",", 4, 126, 40)], ". 3 1111111 0\n, 4 1111110 40"),
)
ROW = "a 10 0000101 3"
OTHER = "b 11 0000110 4"

# Rows that are not four words so written.
WRONG_ROWS = (
    "",
    "a",
    "a 10",
    "a 10 0000101",
    "a 10 0000101 3 4",
    "a 10 0000101 3 ",
    " a 10 0000101 3",
    "a  10 0000101 3",
    "a 10  0000101 3",
    "a 10 0000101  3",
    " 10 0000101 3",
    "a  0000101 3",
    "a 10  3",
    "a 10 0000101 ",
    "   ",
    "    ",
    " ",
    "a\t10\t0000101\t3",
    "a 10 0000101 3\r",
    # Widths.
    "a 01 0000101 3",
    "a 00 0000101 3",
    "a +1 0000101 3",
    "a -1 0000101 3",
    "a 10000 0000101 3",
    "a 00010 0000101 3",
    "a 1_0 0000101 3",
    "a 1.0 0000101 3",
    "a x 0000101 3",
    "a 0x1 0000101 3",
    "a 1a 0000101 3",
    # Numbers of matrices.
    "a 10 0000101 03",
    "a 10 0000101 00",
    "a 10 0000101 +3",
    "a 10 0000101 -3",
    "a 10 0000101 -0",
    "a 10 0000101 10000",
    "a 10 0000101 3_0",
    "a 10 0000101 x",
    # Teeth.
    "a 10 000101 3",
    "a 10 00000101 3",
    "a 10 5 3",
    "a 10 0000102 3",
    "a 10 2000000 3",
    "a 10 000010x 3",
    "a 10 +000101 3",
    "a 10 -000101 3",
    "a 10 0b00101 3",
    "a 10 0_00101 3",
    "a 10 000_101 3",
    # The words stand in another order.
    "10 a 0000101 3",
    "a 0000101 10 3",
)

# Texts of four words a row that are no case, and the number of the first row that can't stand there.
NO_CASES = (
    ("a 0 0000101 3", 0),
    ("a 100 0000101 3", 0),
    ("a 9999 0000101 3", 0),
    ("a 10 0000101 41", 0),
    ("a 10 0000101 9999", 0),
    ("ab 10 0000101 3", 0),
    ("A 10 0000101 3", 0),
    ("/ 10 0000101 3", 0),
    ("1 10 0000101 3", 0),
    ("; 10 0000101 3", 0),
    ("\t 10 0000101 3", 0),
    (".,-' 10 0000101 3", 0),
    (f"{ROW}\n{ROW}", 1),
    (f"{ROW}\na 11 0000110 4", 1),
    (f"{ROW}\nb 11 0000101 4", 1),
    (f"{ROW}\n{OTHER}\nc 0 0000111 4", 2),
    (f"{ROW}\n{OTHER}\nc 12 0000110 4", 2),
    (f"{ROW}\n{OTHER}\na 12 0000111 4\nd 0 0000001 4", 2),
    (f"{ROW}\nab 11 0000110 4\nc 0 0000111 4", 1),
)


def full_case():
    codes = random.Random(29).sample(range(128), 30)
    return [(sign, 1 + 3 * at, code, at + 11) for at, (sign, code) in enumerate(zip(SIGNS, codes))]


class CaseTexts(unittest.TestCase):
    def refused_text(self, text):
        with self.subTest(text):
            with self.assertRaises(NoText) as caught:
                read_case(text)
            self.assertIsInstance(caught.exception, CasterError)

    def refused_case(self, text, at):
        with self.subTest(text):
            with self.assertRaises(NoCase) as caught:
                read_case(text)
            self.assertEqual(caught.exception.at, at)
            self.assertIs(type(caught.exception.at), int)


class Writing(CaseTexts):
    def test_ordinary(self):
        for case, text in PAIRS:
            before = list(case)
            self.assertEqual(shown_case(case), text)
            self.assertIs(type(shown_case(case)), str)
            self.assertEqual(case, before)

    def test_each_tooth(self):
        for place in range(7):
            figures = "0" * (6 - place) + "1" + "0" * place
            self.assertEqual(shown_case([("a", 10, 1 << place, 3)]), f"a 10 {figures} 3")

    def test_all_teeth(self):
        for teeth in range(128):
            self.assertEqual(shown_case([("a", 10, teeth, 3)]), "a 10 " + format(teeth, "07b") + " 3")

    def test_thirty_channels(self):
        case = full_case()
        rows = shown_case(case).split("\n")
        self.assertEqual(len(rows), 30)
        for row, (sign, width, teeth, many) in zip(rows, case):
            self.assertEqual(row.split(" "), [sign, str(width), format(teeth, "07b"), str(many)])

    def test_what_becomes_of_the_case_changes_no_text(self):
        case = list(PAIRS[5][0])
        text = shown_case(case)
        case.clear()
        self.assertEqual(text, PAIRS[5][1])


class Reading(CaseTexts):
    def test_ordinary(self):
        for case, text in PAIRS:
            self.assertEqual(read_case(text), case)

    def test_kinds(self):
        told = read_case(PAIRS[5][1])
        self.assertIs(type(told), list)
        for channel in told:
            self.assertIs(type(channel), tuple)
            self.assertEqual([type(part) for part in channel], [str, int, int, int])

    def test_all_teeth_widths_and_numbers(self):
        for teeth in range(128):
            self.assertEqual(read_case("a 10 " + format(teeth, "07b") + " 3"), [("a", 10, teeth, 3)])
        for width in range(1, 100):
            self.assertEqual(read_case(f"a {width} 0000101 3"), [("a", width, 5, 3)])
        for many in range(41):
            self.assertEqual(read_case(f"a 10 0000101 {many}"), [("a", 10, 5, many)])

    def test_each_sign(self):
        for sign in SIGNS:
            self.assertEqual(read_case(f"{sign} 10 0000101 3"), [(sign, 10, 5, 3)])

    def test_what_is_written_is_read_back(self):
        chance = random.Random(30)
        self.assertEqual(read_case(shown_case(full_case())), full_case())
        for again in range(200):
            many = chance.randint(1, 30)
            parts = zip(chance.sample(SIGNS, many), chance.sample(range(128), many))
            case = [(sign, chance.randint(1, 99), teeth, chance.randint(0, 40)) for sign, teeth in parts]
            look_at_case(case)
            text = shown_case(case)
            self.assertEqual(read_case(text), case)
            self.assertEqual(shown_case(read_case(text)), text)

    def test_the_list_is_the_askers_own(self):
        told = read_case(PAIRS[5][1])
        told.clear()
        self.assertEqual(read_case(PAIRS[5][1]), PAIRS[5][0])


class RefusingTexts(CaseTexts):
    def test_no_sign(self):
        self.refused_text("")

    def test_one_wrong_row(self):
        for row in WRONG_ROWS:
            self.refused_text(row)

    def test_each_other_sign_among_figures(self):
        for sign in [chr(number) for number in range(128)]:
            if sign not in "01":
                self.refused_text(f"a 10 000{sign}101 3")
            if sign not in "0123456789":
                self.refused_text(f"a 1{sign} 0000101 3")
                self.refused_text(f"a 10 0000101 1{sign}")

    def test_a_wrong_row_ahead_between_and_behind(self):
        for row in WRONG_ROWS:
            self.refused_text(f"{row}\n{ROW}")
            self.refused_text(f"{ROW}\n{row}\n{OTHER}")
            self.refused_text(f"{ROW}\n{OTHER}\n{row}")

    def test_line_feeds(self):
        for text in (f"{ROW}\n", f"\n{ROW}", f"{ROW}\n\n{OTHER}", "\n", "\n\n", f"{ROW}\r\n{OTHER}"):
            self.refused_text(text)

    def test_rows_are_parted_by_line_feeds_alone(self):
        for part in ("\r", "\v", "\f", " ", "", "\x1c", ";"):
            self.refused_text(f"{ROW}{part}{OTHER}")

    def test_ahead_of_a_row_that_is_no_channel(self):
        for row in WRONG_ROWS:
            for wrong in ("a 0 0000001 3", "ab 10 0000001 3", "c 10 0000001 41", ROW):
                self.refused_text(f"{ROW}\n{wrong}\n{row}")
                self.refused_text(f"{wrong}\n{row}\n{ROW}")
                self.refused_text(f"{row}\n{wrong}")

    def test_ahead_of_too_many_rows(self):
        rows = shown_case(full_case()).split("\n")
        self.refused_text("\n".join(rows + [ROW, "a 10"]))


class RefusingCases(CaseTexts):
    def test_no_case(self):
        for text, at in NO_CASES:
            self.refused_case(text, at)

    def test_thirty_one_rows(self):
        text = shown_case(full_case())
        left = [teeth for teeth in range(128) if teeth not in [channel[2] for channel in full_case()]]
        for sign in ("a", "'", "A", "ab"):
            self.refused_case(f"{text}\n{sign} 10 " + format(left[0], "07b") + " 3", 30)

    def test_numbers_of_four_figures_are_numbers(self):
        for row in ("a 1000 0000101 3", "a 10 0000101 1000", "a 9999 0000101 9999", "a 0 0000101 0"):
            self.refused_case(row, 0)

    def test_any_first_word(self):
        words = ("end", "10", "a.", "aa", "A", "!", "%s", "0000101", "a/b", "\\n")
        for word in words:
            self.refused_case(f"{word} 10 0000101 3", 0)
            self.refused_case(f"{ROW}\n{word} 11 0000110 3", 1)

    def test_first_codes_are_read_as_right_ones(self):
        case = [(sign, 10, code, 3) for sign, code in zip(SIGNS, first_codes(30, 7))]
        self.assertEqual(read_case(shown_case(case)), case)


if __name__ == "__main__":
    unittest.main()
