"""Points [4], [5], [6]: signs, channels, cases, and what is told of a case."""

import copy
import unittest

from linecaster.cases import SIGNS, can_set, channel_of, codes_of, look_at_case, width_of
from linecaster.errors import NoCase

A = ("a", 10, 1, 5)
B = ("b", 20, 2, 5)
C = ("c", 30, 3, 5)
DOT = (".", 4, 64, 0)


def full_case():
    return [(sign, at + 1, 127 - at, at % 41) for at, sign in enumerate(SIGNS)]


class CaseTest(unittest.TestCase):
    def stands(self, case):
        before = copy.deepcopy(case)
        self.assertIsNone(look_at_case(case))
        self.assertEqual(case, before)

    def refused(self, case, at):
        before = copy.deepcopy(case)
        with self.assertRaises(NoCase) as taken:
            look_at_case(case)
        self.assertEqual(taken.exception.at, at)
        self.assertIs(type(taken.exception.at), int)
        self.assertEqual(case, before)


class Signs(CaseTest):
    def test_the_thirty_in_their_order(self):
        self.assertEqual(SIGNS, "abcdefghijklmnopqrstuvwxyz.,-'")
        self.assertIs(type(SIGNS), str)
        self.assertEqual(len(SIGNS), 30)

    def test_each_sign_can_stand(self):
        for sign in SIGNS:
            with self.subTest(sign):
                self.stands([(sign, 1, 0, 0)])

    def test_no_other_one_can(self):
        for number in range(128):
            if chr(number) not in list(SIGNS):
                with self.subTest(number):
                    self.refused([(chr(number), 1, 0, 0)], 0)

    def test_texts_that_are_no_sign(self):
        for text in ("", " ", "A", "ab", "aa", "yz", ".,", "-'", "a ", " a", "/", "\n", SIGNS):
            with self.subTest(text):
                self.refused([(text, 10, 1, 5)], 0)
                self.refused([B, (text, 10, 1, 5)], 1)


class Bounds(CaseTest):
    def look(self, make, low, high):
        for number in (low, low + 1, high - 1, high):
            with self.subTest(number):
                self.stands([make(number)])
                self.stands([B, make(number)])
        for number in (low - 1, high + 1, low - 1000, high + 1000):
            with self.subTest(number):
                self.refused([make(number)], 0)
                self.refused([B, make(number)], 1)

    def test_width(self):
        self.look(lambda number: ("a", number, 1, 5), 1, 99)

    def test_teeth(self):
        for teeth in (0, 1, 126, 127):
            with self.subTest(teeth):
                self.stands([("a", 10, teeth, 5)])
        for teeth in (-128, -1, 128, 129, 255):
            with self.subTest(teeth):
                self.refused([("a", 10, teeth, 5)], 0)
                self.refused([B, ("a", 10, teeth, 5)], 1)

    def test_many(self):
        self.look(lambda number: ("a", 10, 1, number), 0, 40)


class Cases(CaseTest):
    def test_one_channel(self):
        self.stands([A])

    def test_thirty_channels(self):
        self.stands(full_case())
        self.stands(list(reversed(full_case())))

    def test_each_number_between(self):
        for many in range(1, 31):
            with self.subTest(many):
                self.stands(full_case()[:many])

    def test_none(self):
        self.refused([], 0)

    def test_the_tuple_with_the_number_30_never_stands(self):
        for sign in list(SIGNS) + ["A", "", " ", "ab"]:
            with self.subTest(sign):
                self.refused(full_case() + [(sign, 10, 1, 5)], 30)

    def test_beyond_31_the_first_is_told(self):
        self.refused(full_case() + full_case(), 30)

    def test_a_fault_ahead_of_the_thirty_first_is_told(self):
        case = full_case() + [("a", 10, 1, 5)]
        case[7] = ("h", 0, 1, 5)
        self.refused(case, 7)

    def test_two_signs_alike(self):
        self.refused([A, B, ("a", 11, 4, 6)], 2)
        self.refused([A, ("a", 11, 4, 6), B], 1)

    def test_two_teeth_alike(self):
        self.refused([A, B, ("c", 11, 1, 6)], 2)
        self.refused([A, ("c", 11, 1, 6), B], 1)
        self.refused([("a", 1, 0, 0), ("b", 1, 0, 0)], 1)

    def test_the_whole_tuple_alike(self):
        self.refused([A, A], 1)

    def test_widths_and_manies_may_be_alike(self):
        self.stands([("a", 10, 1, 5), ("b", 10, 2, 5), ("c", 10, 4, 5)])

    def test_teeth_that_have_all_of_others_may_stand_in_any_order(self):
        self.stands([C, A, B])

    def test_two_faults_the_first_is_told(self):
        self.refused([A, ("B", 10, 2, 5), ("c", 100, 3, 5)], 1)
        self.refused([A, ("b", 10, 2, 41), A], 1)
        self.refused([A, B, A, ("c", 0, 3, 5)], 2)
        self.refused([A, ("b", 0, 1, 5)], 1)
        self.refused([("a", 0, 1, 5), ("a", 0, 1, 5)], 0)

    def test_a_pair_alike_is_told_at_its_second_one(self):
        self.refused([A, B, ("d", 1, 128, 1), ("a", 1, 4, 1)], 2)
        self.refused([A, B, ("b", 1, 4, 1), ("d", 1, 128, 1)], 2)
        self.refused([A, B, C, ("b", 1, 1, 1)], 3)


class Channels(unittest.TestCase):
    def test_of_a_sign_with_a_channel(self):
        case = [B, A, DOT]
        self.assertEqual([channel_of(case, sign) for sign in "ba."], [0, 1, 2])

    def test_each_of_thirty(self):
        for at, sign in enumerate(SIGNS):
            told = channel_of(full_case(), sign)
            self.assertEqual(told, at)
            self.assertIs(type(told), int)

    def test_of_a_sign_without_one(self):
        self.assertIsNone(channel_of([A, B], "c"))
        self.assertIsNone(channel_of([A, B], "'"))

    def test_of_any_other_text(self):
        for case in ([A, B, C], full_case()):
            for text in ("", " ", "A", "ab", "abc", "aa", "/", "1", "\n", "a ", SIGNS):
                with self.subTest(text):
                    self.assertIsNone(channel_of(case, text))


class CanSet(unittest.TestCase):
    def test_words(self):
        for word in ("a", "b", ".", "ab", "ba.", "aaaa", "a" * 500):
            with self.subTest(word):
                self.assertIs(can_set([A, B, DOT], word), True)

    def test_the_text_without_signs(self):
        self.assertIs(can_set([A, B, DOT], ""), False)

    def test_one_sign_without_a_channel(self):
        for word in ("c", "cab", "acb", "abc", "a-b", "c" * 9):
            with self.subTest(word):
                self.assertIs(can_set([A, B, DOT], word), False)

    def test_what_is_no_sign(self):
        for word in (" ", "a b", "A", "aB", "a/", "a\n", "7", "ab "):
            with self.subTest(word):
                self.assertIs(can_set(full_case(), word), False)

    def test_all_signs(self):
        self.assertIs(can_set(full_case(), SIGNS), True)

    def test_a_channel_without_matrices_is_a_channel(self):
        self.assertIs(can_set([("a", 10, 1, 0)], "a"), True)


class Widths(unittest.TestCase):
    def test_of_one_sign(self):
        self.assertEqual([width_of([A, B, DOT], sign) for sign in "ab."], [10, 20, 4])

    def test_of_several(self):
        self.assertEqual(width_of([A, B, DOT], "ab."), 34)
        self.assertEqual(width_of([DOT, B, A], ".ba"), 34)

    def test_a_sign_counts_as_often_as_it_comes(self):
        self.assertEqual(width_of([A, B, DOT], "abba"), 60)
        self.assertEqual(width_of([A, B, DOT], "a" * 300), 3000)

    def test_all_signs(self):
        told = width_of(full_case(), SIGNS)
        self.assertEqual(told, 30 * 31 // 2)
        self.assertIs(type(told), int)


class Codes(unittest.TestCase):
    def test_in_the_channels_order(self):
        self.assertEqual(codes_of([C, A, DOT, B]), [3, 1, 64, 2])
        self.assertEqual(codes_of(full_case()), list(range(127, 97, -1)))

    def test_the_list_is_the_askers_own(self):
        case = [A, B]
        told = codes_of(case)
        again = codes_of(case)
        told.append(9)
        told[0] = 77
        self.assertEqual(again, [1, 2])
        self.assertEqual(codes_of(case), [1, 2])
        self.assertEqual(case, [A, B])

    def test_what_becomes_of_the_case_changes_no_told_codes(self):
        case = [A, B]
        told = codes_of(case)
        case.append(C)
        case[0] = DOT
        self.assertEqual(told, [1, 2])


class NothingIsChanged(unittest.TestCase):
    def test_the_case_stays(self):
        case = full_case()
        channel_of(case, "q")
        channel_of(case, "Q")
        can_set(case, "word")
        can_set(case, "Word")
        width_of(case, "word")
        codes_of(case)
        self.assertEqual(case, full_case())


if __name__ == "__main__":
    unittest.main()
