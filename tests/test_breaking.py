"""Points [16], [17], [18], broken_lines, and what [3] says of breaking a text into lines."""

import copy
import itertools
import unittest

from linecaster.breaking import break_table, breaks_of, broken_lines, line_cost
from linecaster.errors import CasterError, NoBreak
from linecaster.lines import full_gap, last_gap

CASE = [("a", 1, 1, 5), ("b", 2, 2, 5), ("c", 3, 3, 5), ("d", 10, 4, 0), ("-", 7, 64, 1)]
GAPS = (2, 4, 8)
WIDTHS = {"a": 1, "b": 2, "c": 3, "d": 10, "-": 7}


def cost_by_words(line, measure, gaps, last):
    low, ideal, high = gaps
    body = sum(WIDTHS[sign] for word in line for sign in word)
    many = len(line) - 1
    off = measure - (body + many * ideal)
    if last and off >= 0:
        return 0
    if body + many * low <= measure <= body + many * high:
        return off ** 2
    return None


def lines_by_breaks(words, breaks):
    return [list(words[start:end]) for start, end in zip([0] + breaks, breaks)]


def all_breaks(many):
    inner = range(1, many)
    return [list(some) + [many] for count in range(many) for some in itertools.combinations(inner, count)]


def whole_cost(words, breaks, measure, gaps):
    lines = lines_by_breaks(words, breaks)
    costs = [cost_by_words(line, measure, gaps, at == len(lines) - 1) for at, line in enumerate(lines)]
    return None if None in costs else sum(costs)


def best_breaks(words, measure, gaps):
    """The cost and the breaks, or None of both."""
    told = [(whole_cost(words, breaks, measure, gaps), breaks) for breaks in all_breaks(len(words))]
    told = [pair for pair in told if pair[0] is not None]
    if not told:
        return (None, None)
    least = min(cost for cost, breaks in told)
    return (least, max(breaks for cost, breaks in told if cost == least))


def most_by_walk(words, measure, gaps):
    for many in range(len(words), 0, -1):
        for breaks in all_breaks(many):
            costs = [cost_by_words(line, measure, gaps, False) for line in lines_by_breaks(words, breaks)]
            if None not in costs:
                return many
    return 0


class LineCost(unittest.TestCase):
    # A body of 8 and two gaps: 12 with low ones, 16 with ideal ones, 24 with high ones.
    LINE = ["c", "b", "c"]

    def told(self, line, measure, gaps, last, expected):
        case = copy.deepcopy(CASE)
        before = list(line)
        cost = line_cost(case, line, measure, gaps, last)
        if expected is None:
            self.assertIsNone(cost)
        else:
            self.assertEqual(cost, expected)
            self.assertIs(type(cost), int)
        self.assertEqual((case, line), (CASE, before))

    def test_a_full_line(self):
        self.told(self.LINE, 16, GAPS, False, 0)
        self.told(self.LINE, 15, GAPS, False, 1)
        self.told(self.LINE, 17, GAPS, False, 1)
        self.told(self.LINE, 19, GAPS, False, 9)
        self.told(self.LINE, 12, GAPS, False, 16)
        self.told(self.LINE, 24, GAPS, False, 64)

    def test_a_full_line_that_cannot_be_set(self):
        self.told(self.LINE, 11, GAPS, False, None)
        self.told(self.LINE, 25, GAPS, False, None)
        self.told(self.LINE, 1, GAPS, False, None)
        self.told(self.LINE, 2000, GAPS, False, None)

    def test_the_same_words_as_a_last_line(self):
        self.told(self.LINE, 16, GAPS, True, 0)
        self.told(self.LINE, 17, GAPS, True, 0)
        self.told(self.LINE, 24, GAPS, True, 0)
        self.told(self.LINE, 25, GAPS, True, 0)
        self.told(self.LINE, 2000, GAPS, True, 0)
        self.told(self.LINE, 15, GAPS, True, 1)
        self.told(self.LINE, 12, GAPS, True, 16)
        self.told(self.LINE, 11, GAPS, True, None)
        self.told(self.LINE, 1, GAPS, True, None)

    def test_one_word(self):
        self.told(["d"], 10, GAPS, False, 0)
        self.told(["d"], 11, GAPS, False, None)
        self.told(["d"], 9, GAPS, False, None)
        self.told(["d"], 10, GAPS, True, 0)
        self.told(["d"], 11, GAPS, True, 0)
        self.told(["d"], 9, GAPS, True, None)

    def test_gaps_alike(self):
        self.told(self.LINE, 12, (2, 2, 2), False, 0)
        self.told(self.LINE, 11, (2, 2, 2), False, None)
        self.told(self.LINE, 13, (2, 2, 2), False, None)
        self.told(self.LINE, 13, (2, 2, 2), True, 0)

    def test_great_costs(self):
        self.told(["a"] * 11, 1001, (0, 0, 99), False, 990 * 990)
        self.told(["a"] * 11, 11, (0, 99, 99), False, 990 * 990)
        self.told(["a"] * 11, 11, (0, 99, 99), True, 990 * 990)

    def test_none_just_where_it_is_refused(self):
        for measure, gaps in itertools.product(range(1, 40), (GAPS, (0, 0, 0), (0, 2, 3), (5, 5, 5))):
            for line in (["a"], ["d"], ["c", "b"], ["a", "b", "c", "-"]):
                for last, ask in ((False, full_gap), (True, last_gap)):
                    try:
                        ask(CASE, line, measure, gaps)
                    except CasterError:
                        self.told(line, measure, gaps, last, None)
                    else:
                        self.told(line, measure, gaps, last, cost_by_words(line, measure, gaps, last))


class BreakTest(unittest.TestCase):
    def told(self, words, measure, gaps, expected):
        case, before = copy.deepcopy(CASE), list(words)
        breaks = breaks_of(case, words, measure, gaps)
        self.assertEqual(breaks, expected)
        self.assertIs(type(breaks), list)
        self.assertEqual([type(one) for one in breaks], [int] * len(breaks))
        self.assertEqual((case, words), (CASE, before))

    def refused(self, words, measure, gaps, many):
        case, before = copy.deepcopy(CASE), list(words)
        with self.assertRaises(NoBreak) as taken:
            breaks_of(case, words, measure, gaps)
        self.assertEqual(taken.exception.words, many)
        self.assertIs(type(taken.exception.words), int)
        self.assertEqual((case, words), (CASE, before))

    def table(self, words, measure, gaps, expected):
        case, before = copy.deepcopy(CASE), list(words)
        table = break_table(case, words, measure, gaps)
        self.assertEqual(table, expected)
        self.assertIs(type(table), list)
        self.assertTrue(all(cost is None or type(cost) is int for cost in table))
        self.assertEqual((case, words), (CASE, before))


class Breaks(BreakTest):
    def test_one_word(self):
        self.told(["d"], 10, GAPS, [1])
        self.told(["d"], 11, GAPS, [1])
        self.told(["d"], 2000, GAPS, [1])

    def test_all_in_one_line(self):
        self.told(["a", "b", "c"], 14, GAPS, [3])
        self.told(["a", "b", "c"], 2000, GAPS, [3])

    def test_several_lines(self):
        # Two words of 3 with an ideal gap of 4 make just 10.
        self.told(["c"] * 6, 10, GAPS, [2, 4, 6])
        self.told(["c"] * 5, 10, GAPS, [2, 4, 5])
        self.told(["d", "c", "c", "d", "a"], 10, GAPS, [1, 3, 4, 5])

    def test_sixty_words(self):
        self.told(["c"] * 60, 10, GAPS, list(range(2, 61, 2)))
        self.told(["d"] * 60, 10, GAPS, list(range(1, 61)))
        self.told(["a"] * 60, 2000, GAPS, [60])
        # Twenty words and nineteen ideal gaps make 96.
        self.told(["a"] * 60, 96, GAPS, [20, 40, 60])

    def test_more_than_sixty_words_are_not_refused(self):
        self.told(["c"] * 61, 10, GAPS, list(range(2, 61, 2)) + [61])
        self.told(["c"] * 400, 10, GAPS, list(range(2, 401, 2)))

    def test_long_words(self):
        self.told(["a" * 30] * 60, 64, GAPS, list(range(2, 61, 2)))
        self.told(["a" * 150] * 60, 1000, (0, 10, 99), list(range(6, 61, 6)))

    def test_the_cheapest_is_not_the_fullest(self):
        # 7 + 3 + 8 = 18 costs 0, with a third word it would be the square of 7 + 3 + 1 + 16 - 18.
        self.assertEqual(line_cost(CASE, ["-", "c", "a"], 18, (1, 8, 8), False), 81)
        self.assertEqual(line_cost(CASE, ["a", "d"], 18, (1, 8, 8), True), 1)
        self.told(["-", "c", "a", "d"], 18, (1, 8, 8), [2, 4])

    def test_a_dear_first_line_for_others_behind_that_can_be_set(self):
        # Three words first would cost 0, but then no line can follow.
        words, measure, gaps = ["a", "c", "b", "-", "-"], 12, (0, 3, 9)
        self.assertEqual(cost_by_words(words[:3], measure, gaps, False), 0)
        self.assertEqual(cost_by_words(words[:2], measure, gaps, False), 25)
        self.told(words, measure, gaps, [2, 4, 5])

    def test_neither_the_cheapest_nor_the_fullest_first_line(self):
        # First lines of two, three and four words cost 36, 1 and 81; behind that of three no line can follow.
        words, measure, gaps = ["a", "b", "b", "-", "-"], 12, (0, 3, 9)
        self.assertEqual(whole_cost(words, [4, 5], measure, gaps), 81)
        self.assertEqual(whole_cost(words, [2, 4, 5], measure, gaps), 36)
        self.told(words, measure, gaps, [2, 4, 5])

    def test_of_several_as_cheap_the_first_break_is_the_greater_one(self):
        for many, others, expected in ((4, [3, 4], [4]), (5, [3, 5], [4, 5]), (6, [3, 6], [4, 6])):
            words, measure, gaps = ["a"] * many, 6, (0, 1, 2)
            self.assertEqual(whole_cost(words, others, measure, gaps), 1)
            self.assertEqual(whole_cost(words, expected, measure, gaps), 1)
            self.told(words, measure, gaps, expected)

    def test_of_several_as_cheap_the_second_break_is_the_greater_one(self):
        words = ["d", "a", "b", "b", "a"]
        self.assertEqual(whole_cost(words, [1, 3, 5], 10, GAPS), 9)
        self.assertEqual(whole_cost(words, [1, 4, 5], 10, GAPS), 9)
        self.told(words, 10, GAPS, [1, 4, 5])
        words = ["d", "a", "c", "c", "a"]
        self.assertEqual(whole_cost(words, [1, 4, 5], 10, (0, 1, 2)), 1)
        self.assertEqual(whole_cost(words, [1, 5], 10, (0, 1, 2)), 1)
        self.told(words, 10, (0, 1, 2), [1, 5])

    def test_words_that_cannot_be_broken_from_the_first_on(self):
        self.refused(["d"], 9, GAPS, 0)
        self.refused(["d", "a"], 11, GAPS, 0)
        self.refused(["dd", "a", "b"], 19, GAPS, 0)
        self.refused(["a", "dd", "d"], 10, GAPS, 0)

    def test_some_can_be(self):
        self.refused(["d", "dd"], 10, GAPS, 1)
        self.refused(["d", "c", "c", "dd", "d"], 10, GAPS, 3)
        self.refused(["c", "c", "a", "dd"], 10, GAPS, 2)

    def test_all_but_the_last_line_can_be(self):
        self.refused(["c"] * 10 + ["dd"], 10, GAPS, 10)
        self.refused(["d"] * 59 + ["dd"], 10, GAPS, 59)
        self.refused(["d"] * 59 + ["da"], 10, GAPS, 59)

    def test_full_lines_of_all_words_are_never_refused(self):
        # Whatever can be set as a full line can be set as a last one.
        for many in range(1, 12):
            self.told(["d"] * many, 10, GAPS, list(range(1, many + 1)))

    def test_the_greatest_number_may_be_reached_by_other_lines_than_the_fullest(self):
        # Behind three words no full line can follow, behind two words one can.
        words, measure, gaps = ["a", "b", "c", "-", "dd"], 12, (0, 3, 9)
        self.assertIsNotNone(cost_by_words(words[:3], measure, gaps, False))
        self.assertIsNone(cost_by_words(words[3:4], measure, gaps, False))
        self.refused(words, measure, gaps, 4)


class Table(BreakTest):
    def test_ordinary(self):
        self.table(["c"] * 4, 10, GAPS, [0, 0, 0, 0, 0])
        self.table(["c", "c", "b", "b", "d"], 9, GAPS, [None, None, None, None, None, 0])
        self.table(["c", "c", "b", "b", "-"], 9, GAPS, [2, None, 1, None, 0, 0])

    def test_one_word(self):
        self.table(["d"], 10, GAPS, [0, 0])
        self.table(["d"], 99, GAPS, [0, 0])
        self.table(["d"], 9, GAPS, [None, 0])

    def test_none_between(self):
        self.table(["d", "a", "dd"], 10, GAPS, [None, None, None, 0])
        self.table(["dd", "d", "a"], 10, GAPS, [None, 0, 0, 0])
        self.table(["d", "a", "d"], 10, GAPS, [None, None, 0, 0])

    def test_sixty_words(self):
        self.table(["c"] * 60, 10, GAPS, [0] * 61)
        self.table(["d"] * 59 + ["dd"], 10, GAPS, [None] * 60 + [0])

    def test_the_first_is_the_cost_of_the_told_breaks(self):
        words = ["c", "c", "b", "b", "-"]
        self.assertEqual(breaks_of(CASE, words, 9, GAPS), [2, 4, 5])
        self.assertEqual(whole_cost(words, [2, 4, 5], 9, GAPS), break_table(CASE, words, 9, GAPS)[0])


class AgainstAllBreakings(BreakTest):
    def look(self, words, measure, gaps):
        cost, breaks = best_breaks(words, measure, gaps)
        expected = [best_breaks(words[left_out:], measure, gaps)[0] for left_out in range(len(words))] + [0]
        self.table(words, measure, gaps, expected)
        if breaks is None:
            self.refused(words, measure, gaps, most_by_walk(words, measure, gaps))
        else:
            self.told(words, measure, gaps, breaks)
            self.assertEqual(expected[0], whole_cost(words, breaks, measure, gaps))

    def test_short_lists(self):
        for many in range(1, 5):
            for words in itertools.product(("a", "c", "-"), repeat=many):
                for measure, gaps in itertools.product((3, 7, 9, 12), (GAPS, (0, 1, 5))):
                    self.look(list(words), measure, gaps)

    def test_longer_lists(self):
        text = "a ab c b abc - a c ba b aa c cab a d b ac a - b a c".split()
        for start in range(0, len(text) - 8):
            for measure, gaps in itertools.product((7, 10, 13, 17), (GAPS, (1, 2, 3), (0, 0, 9), (3, 3, 3))):
                self.look(text[start:start + 8], measure, gaps)

    def test_words_alike(self):
        for many, word in itertools.product(range(1, 9), ("a", "b")):
            for measure, gaps in itertools.product(range(1, 16), ((0, 0, 0), (0, 1, 2), (1, 2, 4), (0, 3, 9))):
                self.look([word] * many, measure, gaps)

    def test_a_first_line_that_is_sure(self):
        for tail in itertools.product(("a", "b", "c"), repeat=4):
            for gaps in ((0, 1, 2), (1, 2, 4), GAPS):
                self.look(["d"] + list(tail), 10, gaps)


class BrokenLines(unittest.TestCase):
    def test_ordinary(self):
        self.assertEqual(broken_lines(["a"], [1]), [["a"]])
        self.assertEqual(broken_lines(["a", "b", "c"], [3]), [["a", "b", "c"]])
        self.assertEqual(broken_lines(["a", "b", "c"], [1, 3]), [["a"], ["b", "c"]])
        self.assertEqual(broken_lines(["a", "b", "c"], [1, 2, 3]), [["a"], ["b"], ["c"]])

    def test_of_told_breaks(self):
        words = ["d", "c", "c", "d", "a"]
        lines = broken_lines(words, breaks_of(CASE, words, 10, GAPS))
        self.assertEqual(lines, [["d"], ["c", "c"], ["d"], ["a"]])
        self.assertEqual([word for line in lines for word in line], words)

    def test_new_lists(self):
        words, breaks = ["a", "b", "c"], [3]
        told = broken_lines(words, breaks)
        told[0].append("d")
        told.append(["e"])
        self.assertEqual((words, breaks), (["a", "b", "c"], [3]))
        self.assertEqual(broken_lines(words, breaks), [["a", "b", "c"]])
        told = broken_lines(words, breaks)
        words[0] = "z"
        breaks.append(4)
        self.assertEqual(told, [["a", "b", "c"]])

    def test_words_and_breaks_stay(self):
        words, breaks = ["a", "b", "c"], [1, 3]
        broken_lines(words, breaks)
        self.assertEqual((words, breaks), (["a", "b", "c"], [1, 3]))


class TheAskersOwn(unittest.TestCase):
    def test_breaks_and_table(self):
        words = ["c"] * 4
        for ask, expected in ((breaks_of, [2, 4]), (break_table, [0, 0, 0, 0, 0])):
            told = ask(CASE, words, 10, GAPS)
            told.append(9)
            told[0] = 77
            self.assertEqual(ask(CASE, words, 10, GAPS), expected)
            told = ask(CASE, words, 10, GAPS)
            words.append("dd")
            self.assertEqual(told, expected)
            words.pop()


if __name__ == "__main__":
    unittest.main()
