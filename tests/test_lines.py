"""Points [13], [14], [15], and what [3] says of a line's gap."""

import copy
import itertools
import unittest
from fractions import Fraction

from linecaster.cases import SIGNS
from linecaster.errors import CasterError, Loose, Tight
from linecaster.lines import body_of, full_gap, last_gap

CASE = [("a", 1, 1, 5), ("b", 5, 2, 5), ("c", 10, 3, 5), ("d", 99, 4, 0), ("-", 7, 64, 1)]
GAPS = (2, 4, 8)


def full_case():
    return [(sign, at + 1, 127 - at, at) for at, sign in enumerate(SIGNS)]


class LineTest(unittest.TestCase):
    def told(self, ask, line, measure, gaps, expected):
        case = copy.deepcopy(CASE)
        before = list(line)
        gap = ask(case, line, measure, gaps)
        self.assertEqual(gap, expected)
        self.assertIs(type(gap), tuple)
        self.assertEqual([type(part) for part in gap], [int, int])
        self.assertEqual((case, line), (CASE, before))

    def refused(self, ask, line, measure, gaps, error, by):
        case = copy.deepcopy(CASE)
        before = list(line)
        with self.assertRaises(error) as taken:
            ask(case, line, measure, gaps)
        self.assertEqual(taken.exception.by, by)
        self.assertIs(type(taken.exception.by), int)
        self.assertEqual((case, line), (CASE, before))


class Body(unittest.TestCase):
    def test_one_word(self):
        self.assertEqual(body_of(CASE, ["a"]), 1)
        self.assertEqual(body_of(CASE, ["abc-"]), 23)

    def test_several_words(self):
        self.assertEqual(body_of(CASE, ["a", "b", "c"]), 16)
        self.assertEqual(body_of(CASE, ["ab", "c-"]), 23)

    def test_signs_that_come_more_than_once(self):
        self.assertEqual(body_of(CASE, ["abba", "baab", "c"]), 34)
        self.assertEqual(body_of(CASE, ["d" * 20, "d" * 20]), 3960)
        self.assertEqual(body_of(CASE, ["a"] * 400), 400)

    def test_words_of_all_signs(self):
        told = body_of(full_case(), [SIGNS, SIGNS])
        self.assertEqual(told, 30 * 31)
        self.assertIs(type(told), int)

    def test_case_and_line_stay(self):
        case = full_case()
        line = ["one", "two", "one"]
        body_of(case, line)
        self.assertEqual(case, full_case())
        self.assertEqual(line, ["one", "two", "one"])


class FullGap(LineTest):
    # Three words with a body of 20 and two gaps: 24 with low ones, 28 with ideal ones, 36 with high ones.
    LINE = ["b", "c", "b"]

    def test_just_low(self):
        self.told(full_gap, self.LINE, 24, GAPS, (2, 1))

    def test_one_unit_below_low(self):
        self.refused(full_gap, self.LINE, 23, GAPS, Tight, 1)

    def test_far_below_low(self):
        self.refused(full_gap, self.LINE, 20, GAPS, Tight, 4)
        self.refused(full_gap, self.LINE, 1, GAPS, Tight, 23)
        self.refused(full_gap, ["d" * 30, "d"], 2000, GAPS, Tight, 31 * 99 + 2 - 2000)

    def test_just_high(self):
        self.told(full_gap, self.LINE, 36, GAPS, (8, 1))

    def test_one_unit_beyond_high(self):
        self.refused(full_gap, self.LINE, 37, GAPS, Loose, 1)

    def test_far_beyond_high(self):
        self.refused(full_gap, self.LINE, 2000, GAPS, Loose, 1964)

    def test_between(self):
        self.told(full_gap, self.LINE, 25, GAPS, (5, 2))
        self.told(full_gap, self.LINE, 26, GAPS, (3, 1))
        self.told(full_gap, self.LINE, 28, GAPS, (4, 1))
        self.told(full_gap, self.LINE, 35, GAPS, (15, 2))

    def test_lowest_terms(self):
        five = ["a"] * 5
        self.told(full_gap, five, 11, (0, 4, 8), (3, 2))
        self.told(full_gap, five, 15, (0, 4, 8), (5, 2))
        self.told(full_gap, five, 12, (0, 4, 8), (7, 4))
        self.told(full_gap, five, 13, (0, 4, 8), (2, 1))
        self.told(full_gap, ["a"] * 13, 13 + 18, (0, 4, 8), (3, 2))
        self.told(full_gap, ["a"] * 13, 13 + 20, (0, 4, 8), (5, 3))

    def test_less_than_one_unit_a_gap(self):
        self.told(full_gap, ["a"] * 5, 6, (0, 0, 8), (1, 4))
        self.told(full_gap, ["a"] * 5, 7, (0, 0, 8), (1, 2))

    def test_gaps_of_no_width(self):
        self.told(full_gap, ["a"] * 5, 5, (0, 0, 0), (0, 1))
        self.told(full_gap, ["a", "b"], 6, (0, 4, 8), (0, 1))
        self.told(full_gap, ["a"] * 5, 5, (0, 0, 99), (0, 1))
        self.refused(full_gap, ["a"] * 5, 6, (0, 0, 0), Loose, 1)
        self.refused(full_gap, ["a"] * 5, 4, (0, 0, 0), Tight, 1)

    def test_low_ideal_and_high_alike(self):
        self.told(full_gap, self.LINE, 26, (3, 3, 3), (3, 1))
        self.refused(full_gap, self.LINE, 25, (3, 3, 3), Tight, 1)
        self.refused(full_gap, self.LINE, 27, (3, 3, 3), Loose, 1)

    def test_the_widest_gaps(self):
        self.told(full_gap, self.LINE, 20 + 198, (99, 99, 99), (99, 1))
        self.told(full_gap, self.LINE, 20 + 197, (0, 0, 99), (197, 2))
        self.refused(full_gap, self.LINE, 20 + 199, (0, 99, 99), Loose, 1)
        self.refused(full_gap, self.LINE, 20 + 197, (99, 99, 99), Tight, 1)

    def test_one_word(self):
        for gaps in (GAPS, (0, 0, 0), (0, 0, 99), (99, 99, 99)):
            self.told(full_gap, ["cb"], 15, gaps, (0, 1))
            self.refused(full_gap, ["cb"], 16, gaps, Loose, 1)
            self.refused(full_gap, ["cb"], 14, gaps, Tight, 1)
            self.refused(full_gap, ["cb"], 2000, gaps, Loose, 1985)
            self.refused(full_gap, ["cb"], 1, gaps, Tight, 14)

    def test_the_bounds_of_the_measure(self):
        self.told(full_gap, ["a"], 1, GAPS, (0, 1))
        self.told(full_gap, ["c" * 200], 2000, GAPS, (0, 1))
        self.told(full_gap, ["c" * 100, "c" * 99], 2000, (0, 5, 10), (10, 1))

    def test_nothing_is_refused_for_its_bounds(self):
        self.told(full_gap, ["c" * 100, "c" * 100], 2100, (0, 50, 100), (100, 1))

    def test_held_against_fractions(self):
        lines = (["b"], ["a", "c"], ["a", "b", "c"], ["a"] * 7, ["-", "b", "a", "-", "ab"])
        rising = [(low, low, high) for low, high in itertools.combinations_with_replacement(range(0, 12, 2), 2)]
        for line, gaps, measure in itertools.product(lines, rising, range(1, 60)):
            body, many = body_of(CASE, line), len(line) - 1
            if body + many * gaps[0] > measure:
                self.refused(full_gap, line, measure, gaps, Tight, body + many * gaps[0] - measure)
            elif body + many * gaps[2] < measure:
                self.refused(full_gap, line, measure, gaps, Loose, measure - body - many * gaps[2])
            else:
                gap = Fraction(measure - body, many) if many else Fraction(0)
                self.told(full_gap, line, measure, gaps, (gap.numerator, gap.denominator))
                self.assertEqual(body + many * gap, measure)


class LastGap(LineTest):
    LINE = ["b", "c", "b"]

    def test_shorter_than_the_measure(self):
        self.told(last_gap, self.LINE, 29, GAPS, (4, 1))
        self.told(last_gap, self.LINE, 36, GAPS, (4, 1))
        self.told(last_gap, self.LINE, 37, GAPS, (4, 1))
        self.told(last_gap, self.LINE, 2000, GAPS, (4, 1))

    def test_just_as_long(self):
        self.told(last_gap, self.LINE, 28, GAPS, (4, 1))

    def test_one_unit_longer(self):
        self.told(last_gap, self.LINE, 27, GAPS, (7, 2))

    def test_just_low(self):
        self.told(last_gap, self.LINE, 24, GAPS, (2, 1))

    def test_too_long(self):
        self.refused(last_gap, self.LINE, 23, GAPS, Tight, 1)
        self.refused(last_gap, self.LINE, 1, GAPS, Tight, 23)

    def test_low_ideal_and_high_alike(self):
        self.told(last_gap, self.LINE, 26, (3, 3, 3), (3, 1))
        self.told(last_gap, self.LINE, 27, (3, 3, 3), (3, 1))
        self.refused(last_gap, self.LINE, 25, (3, 3, 3), Tight, 1)

    def test_ideal_of_no_width(self):
        self.told(last_gap, self.LINE, 20, (0, 0, 0), (0, 1))
        self.told(last_gap, self.LINE, 50, (0, 0, 5), (0, 1))
        self.refused(last_gap, self.LINE, 19, (0, 0, 5), Tight, 1)

    def test_one_word_alone(self):
        for gaps in (GAPS, (0, 4, 9), (0, 0, 0), (99, 99, 99)):
            ideal = gaps[1]
            self.told(last_gap, ["cb"], 16, gaps, (ideal, 1))
            self.told(last_gap, ["cb"], 2000, gaps, (ideal, 1))
            self.told(last_gap, ["cb"], 15, gaps, (ideal, 1))
            self.refused(last_gap, ["cb"], 14, gaps, Tight, 1)
            self.refused(last_gap, ["cb"], 1, gaps, Tight, 14)

    def test_never_loose(self):
        lines = (["b"], ["a", "c"], ["a", "b", "c"], ["a"] * 7)
        rising = list(itertools.combinations_with_replacement((0, 1, 3, 6, 11), 3))
        for line, gaps, measure in itertools.product(lines, rising, range(1, 45)):
            body, many = body_of(CASE, line), len(line) - 1
            if body + many * gaps[1] <= measure:
                self.told(last_gap, line, measure, gaps, (gaps[1], 1))
            elif body + many * gaps[0] > measure:
                self.refused(last_gap, line, measure, gaps, Tight, body + many * gaps[0] - measure)
            else:
                self.told(last_gap, line, measure, gaps, full_gap(CASE, line, measure, gaps))


class Refusals(unittest.TestCase):
    def test_by_is_a_whole_number_from_one_on(self):
        for ask, measure, gaps in itertools.product((full_gap, last_gap), range(1, 90), (GAPS, (0, 0, 0), (9, 9, 9))):
            for line in (["c"], ["c", "b"], ["a", "b", "c", "-"]):
                try:
                    ask(CASE, line, measure, gaps)
                except CasterError as error:
                    self.assertIs(type(error.by), int)
                    self.assertGreaterEqual(error.by, 1)

    def test_what_is_refused_can_be_asked_again(self):
        for again in range(2):
            with self.assertRaises(Loose):
                full_gap(CASE, ["b", "c", "b"], 37, GAPS)
            self.assertEqual(full_gap(CASE, ["b", "c", "b"], 36, GAPS), (8, 1))


if __name__ == "__main__":
    unittest.main()
