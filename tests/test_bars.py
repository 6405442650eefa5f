"""Points [7], [8], [9], and what [3] says of where a matrix falls."""

import itertools
import unittest

from linecaster.bars import falls_at, first_codes, has_all, put_right, wrong_falls
from linecaster.errors import TooMany


def teeth_in(number):
    return {place for place in range(8) if number // 2 ** place % 2 == 1}


def sample_codes():
    samples = [list(codes) for codes in itertools.permutations((0, 1, 2, 3, 5))]
    samples += [list(codes) for codes in itertools.permutations((7, 56, 63, 127))]
    # Steps that share no factor with 128 lead through unlike numbers.
    for step in (1, 3, 37, 101, 127):
        samples += [[(start + step * at) % 128 for at in range(30)] for start in range(0, 128, 11)]
    return samples


class HasAll(unittest.TestCase):
    def test_ordinary(self):
        self.assertIs(has_all(7, 5), True)
        self.assertIs(has_all(5, 7), False)
        self.assertIs(has_all(5, 5), True)
        self.assertIs(has_all(5, 2), False)
        self.assertIs(has_all(6, 3), False)
        self.assertIs(has_all(64, 1), False)

    def test_no_teeth(self):
        for teeth in range(128):
            self.assertIs(has_all(teeth, 0), True)
            self.assertIs(has_all(0, teeth), teeth == 0)

    def test_all_teeth(self):
        for teeth in range(128):
            self.assertIs(has_all(127, teeth), True)
            self.assertIs(has_all(teeth, 127), teeth == 127)

    def test_every_pair(self):
        for teeth in range(128):
            for others in range(128):
                self.assertIs(has_all(teeth, others), teeth_in(others) <= teeth_in(teeth))


class FallsAt(unittest.TestCase):
    def test_the_first_of_several(self):
        self.assertEqual(falls_at([1, 3, 7, 2], 2), 1)
        self.assertEqual(falls_at([1, 3, 7, 2], 1), 0)
        self.assertEqual(falls_at([1, 3, 7, 2], 4), 2)
        self.assertEqual(falls_at([2, 1], 1), 1)

    def test_nowhere(self):
        self.assertIsNone(falls_at([1, 3, 7, 2], 8))
        self.assertIsNone(falls_at([1, 2], 3))
        self.assertIsNone(falls_at([0], 1))
        self.assertIsNone(falls_at([126], 127))

    def test_no_teeth_fall_at_once(self):
        self.assertEqual(falls_at([5, 0], 0), 0)
        self.assertEqual(falls_at([0], 0), 0)

    def test_all_teeth_fall_where_all_are(self):
        self.assertEqual(falls_at([126, 63, 127], 127), 2)

    def test_a_number_is_no_truth(self):
        self.assertIs(type(falls_at([1], 1)), int)
        self.assertIs(type(falls_at([2, 1], 1)), int)

    def test_it_falls_into_the_first_that_has_all(self):
        for codes in sample_codes():
            for teeth in (0, 1, 3, 5, 42, 64, 99, 127) + tuple(codes):
                takers = [at for at, code in enumerate(codes) if teeth_in(teeth) <= teeth_in(code)]
                self.assertEqual(falls_at(codes, teeth), takers[0] if takers else None)


class WrongFalls(unittest.TestCase):
    def test_right_codes(self):
        self.assertEqual(wrong_falls([0]), [])
        self.assertEqual(wrong_falls([127]), [])
        self.assertEqual(wrong_falls([0, 1, 2, 4, 3, 7]), [])
        self.assertEqual(wrong_falls([4, 2, 1]), [])
        self.assertEqual(wrong_falls([2, 1, 3]), [])

    def test_one(self):
        self.assertEqual(wrong_falls([3, 1]), [(1, 0)])
        self.assertEqual(wrong_falls([4, 0]), [(1, 0)])

    def test_several_rising_each_with_the_first_that_has_all(self):
        self.assertEqual(wrong_falls([3, 1, 7, 2, 4, 8, 5, 0]), [(1, 0), (3, 0), (4, 2), (6, 2), (7, 0)])
        self.assertEqual(wrong_falls([7, 3, 1]), [(1, 0), (2, 0)])

    def test_the_kinds(self):
        told = wrong_falls([4, 3, 1])
        self.assertIs(type(told), list)
        self.assertEqual([type(part) for part in told[0]], [int, int])
        self.assertIs(type(told[0]), tuple)

    def test_own_channel_just_where_none_ahead_has_all(self):
        for codes in sample_codes():
            expected = []
            for at, code in enumerate(codes):
                ahead = [other for other in range(at) if teeth_in(code) <= teeth_in(codes[other])]
                if ahead:
                    expected.append((at, ahead[0]))
            self.assertEqual(wrong_falls(codes), expected)

    def test_the_list_is_the_askers_own(self):
        codes = [3, 1]
        told = wrong_falls(codes)
        told.append((9, 9))
        self.assertEqual(wrong_falls(codes), [(1, 0)])
        right = wrong_falls([1, 3])
        right.append((9, 9))
        self.assertEqual(wrong_falls([1, 3]), [])


class PutRight(unittest.TestCase):
    def test_by_numbers_of_teeth_then_by_numbers(self):
        self.assertEqual(put_right([7, 8, 3, 0, 64, 5]), [0, 8, 64, 3, 5, 7])
        self.assertEqual(put_right([127, 64]), [64, 127])
        self.assertEqual(put_right([15, 16]), [16, 15])
        self.assertEqual(put_right([96, 48, 3, 24]), [3, 24, 48, 96])
        self.assertEqual(put_right([42]), [42])

    def test_every_order_comes_to_the_same(self):
        for codes in itertools.permutations((0, 2, 3, 4, 64, 112)):
            self.assertEqual(put_right(list(codes)), [0, 2, 4, 64, 3, 112])

    def test_the_same_codes_and_right(self):
        for codes in sample_codes():
            told = put_right(codes)
            self.assertEqual(sorted(told), sorted(codes))
            self.assertEqual(wrong_falls(told), [])
            ranks = [(len(teeth_in(code)), code) for code in told]
            self.assertEqual(ranks, sorted(ranks))

    def test_what_was_handed_in_stays(self):
        for codes in ([3, 1, 0], [0, 1, 3], [5]):
            before = list(codes)
            told = put_right(codes)
            self.assertEqual(codes, before)
            told.append(99)
            told[0] = 77
            self.assertEqual(codes, before)

    def test_what_becomes_of_codes_changes_nothing_told(self):
        codes = [0, 1, 3]
        told = put_right(codes)
        codes.append(7)
        self.assertEqual(told, [0, 1, 3])


class FirstCodes(unittest.TestCase):
    def test_ordinary(self):
        self.assertEqual(first_codes(5, 3), [0, 1, 2, 4, 3])
        self.assertEqual(first_codes(1, 7), [0])
        self.assertEqual(first_codes(10, 7), [0, 1, 2, 4, 8, 16, 32, 64, 3, 5])
        self.assertEqual(
            first_codes(30, 7),
            [0, 1, 2, 4, 8, 16, 32, 64]
            + [3, 5, 6, 9, 10, 12, 17, 18, 20, 24, 33, 34, 36, 40, 48, 65, 66, 68, 72, 80, 96]
            + [7],
        )

    def test_just_as_many_as_there_are(self):
        self.assertEqual(first_codes(1, 0), [0])
        self.assertEqual(first_codes(2, 1), [0, 1])
        self.assertEqual(first_codes(4, 2), [0, 1, 2, 3])
        self.assertEqual(first_codes(8, 3), [0, 1, 2, 4, 3, 5, 6, 7])
        self.assertEqual(first_codes(16, 4), [0, 1, 2, 4, 8, 3, 5, 6, 9, 10, 12, 7, 11, 13, 14, 15])

    def test_one_more_than_there_are(self):
        for many, teeth in ((2, 0), (3, 1), (5, 2), (9, 3), (17, 4)):
            with self.subTest(many=many, teeth=teeth):
                with self.assertRaises(TooMany):
                    first_codes(many, teeth)

    def test_many_more(self):
        for teeth in range(5):
            with self.subTest(teeth):
                with self.assertRaises(TooMany):
                    first_codes(30, teeth)

    def test_all_that_are_promised(self):
        for teeth in range(8):
            ranks = sorted((len(teeth_in(number)), number) for number in range(2 ** teeth))
            for many in range(1, min(30, 2 ** teeth) + 1):
                told = first_codes(many, teeth)
                self.assertEqual(told, [number for count, number in ranks[:many]])
                self.assertEqual(wrong_falls(told), [])

    def test_beyond_thirty_nothing_is_refused_but_for_lack(self):
        self.assertEqual(len(first_codes(31, 5)), 31)
        self.assertEqual(len(first_codes(32, 5)), 32)
        with self.assertRaises(TooMany):
            first_codes(33, 5)

    def test_the_list_is_the_askers_own(self):
        told = first_codes(4, 2)
        told.append(9)
        told[0] = 77
        self.assertEqual(first_codes(4, 2), [0, 1, 2, 3])


class NothingIsChanged(unittest.TestCase):
    def test_the_codes_stay(self):
        for codes in ([3, 1, 7, 2], [1, 2, 3, 7]):
            before = list(codes)
            falls_at(codes, 2)
            falls_at(codes, 64)
            wrong_falls(codes)
            put_right(codes)
            self.assertEqual(codes, before)


if __name__ == "__main__":
    unittest.main()
