"""Point [23]: the matrices in the channels of a case, whole and broken."""

import itertools
import unittest

from linecaster.errors import CasterError, NoCase
from linecaster.matrices import channels_of

CASE = [("a", 10, 1, 2), ("n", 12, 6, 3), ("t", 7, 0, 1), ("e", 9, 127, 1), ("s", 9, 5, 0)]
WHOLE = [[("a", 1)] * 2, [("n", 6)] * 3, [("t", 0)], [("e", 127)], []]


class MatricesTest(unittest.TestCase):
    def refused(self, case, broken, at):
        before = (list(case), list(broken))
        with self.subTest(broken):
            with self.assertRaises(NoCase) as caught:
                channels_of(case, broken)
            self.assertEqual(caught.exception.at, at)
            self.assertEqual((case, broken), before)


class Whole(MatricesTest):
    def test_none_broken(self):
        self.assertEqual(channels_of(CASE, []), WHOLE)
        self.assertEqual(channels_of(CASE, None), WHOLE)

    def test_how_many(self):
        for many in (0, 1, 2, 39, 40, 41, 100):
            self.assertEqual(channels_of([("a", 1, 3, many)], []), [[("a", 3)] * many])

    def test_the_kinds(self):
        channels = channels_of(CASE, [(1, 2)])
        self.assertIs(type(channels), list)
        for matrices in channels:
            self.assertIs(type(matrices), list)
            for matrix in matrices:
                self.assertEqual([type(part) for part in (matrix, *matrix)], [tuple, str, int])

    def test_codes_that_are_not_right(self):
        case = [("a", 1, 7, 1), ("b", 1, 3, 2)]
        self.assertEqual(channels_of(case, [(1, 1)]), [[("a", 7)], [("b", 2), ("b", 3)]])


class Broken(MatricesTest):
    def test_one(self):
        for lost in (2, 4, 6):
            self.assertEqual(
                channels_of(CASE, [(1, lost)]),
                [[("a", 1)] * 2, [("n", 6 - lost), ("n", 6), ("n", 6)], [("t", 0)], [("e", 127)], []],
            )

    def test_all_teeth_of_a_matrix(self):
        self.assertEqual(channels_of(CASE, [(0, 1)])[0], [("a", 0), ("a", 1)])
        self.assertEqual(channels_of(CASE, [(3, 127)])[3], [("e", 0)])

    def test_each_set_of_teeth(self):
        for lost in range(1, 128):
            self.assertEqual(channels_of(CASE, [(3, lost)])[3], [("e", 127 - lost)])

    def test_several_of_one_channel(self):
        for many in range(4):
            for losts in itertools.product((2, 4, 6), repeat=many):
                told = channels_of(CASE, [(1, lost) for lost in losts])
                left = [("n", 6 - lost) for lost in losts] + [("n", 6)] * (3 - many)
                self.assertEqual(told, WHOLE[:1] + [left] + WHOLE[2:])

    def test_several_channels(self):
        broken = [(1, 4), (0, 1), (1, 2), (3, 64), (0, 1), (1, 6)]
        self.assertEqual(
            channels_of(CASE, broken),
            [[("a", 0), ("a", 0)], [("n", 2), ("n", 4), ("n", 0)], [("t", 0)], [("e", 63)], []],
        )


class Wrong(MatricesTest):
    def test_no_teeth(self):
        self.refused(CASE, [(1, 0)], 0)
        self.refused(CASE, [(2, 0)], 0)
        self.refused(CASE, [(1, 2), (0, 0)], 1)

    def test_teeth_that_the_matrix_has_not(self):
        for lost in (1, 3, 5, 7, 8, 10, 14, 64, 127, 128, 134, 256, 10 ** 59, -1, -2, -6, -128):
            self.refused(CASE, [(1, lost)], 0)
            self.refused(CASE, [(1, 2), (3, 1), (1, lost)], 2)
        for lost in (1, 2, 127, 128, -1):
            self.refused(CASE, [(2, lost)], 0)
        for lost in (128, 255, -1, -127):
            self.refused(CASE, [(3, lost)], 0)

    def test_no_such_channel(self):
        for channel in (-1, -2, -4, -5, -6, 5, 6, 30, 10 ** 59, -10 ** 59):
            self.refused(CASE, [(channel, 1)], 0)
            self.refused(CASE, [(channel, 2)], 0)
            self.refused(CASE, [(0, 1), (channel, 1)], 1)

    def test_more_than_the_channel_has(self):
        self.refused(CASE, [(0, 1)] * 3, 2)
        self.refused(CASE, [(1, 2)] * 4, 3)
        self.refused(CASE, [(1, 2), (0, 1), (1, 4), (1, 6), (0, 1), (1, 2)], 5)
        self.refused(CASE, [(3, 1), (3, 2)], 1)
        self.refused(CASE, [(0, 1)] * 400, 2)

    def test_a_channel_with_none(self):
        self.refused(CASE, [(4, 1)], 0)
        self.refused(CASE, [(0, 1), (4, 5)], 1)

    def test_the_first_of_several(self):
        self.refused(CASE, [(0, 1), (1, 1), (9, 1), (0, 0)], 1)
        self.refused(CASE, [(9, 1), (1, 1)], 0)
        self.refused(CASE, [(0, 1), (0, 1), (0, 1), (1, 0)], 2)

    def test_the_refusal_is_a_caster_error(self):
        with self.assertRaises(CasterError):
            channels_of(CASE, [(0, 0)])


class TheAskersOwn(MatricesTest):
    def test_what_was_told(self):
        first = channels_of(CASE, [(1, 2)])
        second = channels_of(CASE, [(1, 2)])
        first[1].clear()
        first[4].append(("x", 1))
        first.clear()
        self.assertEqual(second[1], [("n", 4), ("n", 6), ("n", 6)])
        self.assertEqual(second[4], [])
        self.assertEqual(channels_of(CASE, []), WHOLE)

    def test_channels_do_not_share_a_list(self):
        channels = channels_of([("a", 1, 0, 0), ("b", 1, 1, 0)], [])
        channels[0].append(("a", 0))
        self.assertEqual(channels[1], [])

    def test_what_is_handed_in_stays(self):
        case, broken = list(CASE), [(1, 2), (0, 1)]
        channels = channels_of(case, broken)
        self.assertEqual((case, broken), (CASE, [(1, 2), (0, 1)]))
        case.clear()
        broken.clear()
        self.assertEqual(channels[:2], [[("a", 0), ("a", 1)], [("n", 4), ("n", 6), ("n", 6)]])


if __name__ == "__main__":
    unittest.main()
