"""Points [10], [11], [12], and what [3] says of broken teeth."""

import functools
import unittest

from linecaster.bars import falls_at, first_codes, put_right, wrong_falls
from linecaster.breakage import broken_sets, fewest_broken


@functools.cache
def teeth_in(number):
    return frozenset(place for place in range(8) if number // 2 ** place % 2 == 1)


def right_codes():
    samples = [[0], [1], [127], [0, 127], [1, 2, 3], [2, 1, 3], [4, 2, 1], [0, 1, 2, 4, 3, 5, 6, 7]]
    # Right, but by other orders than that of put_right.
    samples += [[3, 12, 15], [7, 8, 15], [12, 3, 48, 15, 51, 63, 127], [96, 1, 0b1100001, 0b1110000, 127]]
    samples += [first_codes(many, 7) for many in (1, 9, 30)]
    # Steps that share no factor with 128 lead through unlike numbers.
    for start, step in ((0, 3), (5, 37), (127, 101)):
        samples.append(put_right([(start + step * at) % 128 for at in range(30)]))
    return samples


def sets_by_walk(codes, channel, where):
    own = teeth_in(codes[channel])
    told = []
    for broken in range(128):
        if teeth_in(broken) <= own:
            left = own - teeth_in(broken)
            takers = [at for at, code in enumerate(codes) if left <= teeth_in(code)]
            if takers[0] == where:
                told.append(broken)
    return told


class Samples(unittest.TestCase):
    def test_all_are_right(self):
        for codes in right_codes():
            self.assertEqual(wrong_falls(codes), [], codes)


class BrokenSets(unittest.TestCase):
    def test_ordinary(self):
        codes = [0, 1, 2, 4, 3, 5, 6, 7]
        self.assertEqual(broken_sets(codes, 7, 7), [0])
        self.assertEqual(broken_sets(codes, 7, 4), [4])
        self.assertEqual(broken_sets(codes, 7, 1), [6])
        self.assertEqual(broken_sets(codes, 7, 0), [7])
        self.assertEqual(broken_sets(codes, 4, 2), [1])

    def test_several_sets_lead_there(self):
        self.assertEqual(broken_sets([3, 12, 15], 2, 0), [12, 13, 14, 15])
        self.assertEqual(broken_sets([3, 12, 15], 2, 1), [3, 7, 11])
        self.assertEqual(broken_sets([3, 12, 15], 2, 2), [0, 1, 2, 4, 5, 6, 8, 9, 10])

    def test_one_ahead_that_no_set_leads_to(self):
        # What 12 and 5 have in common, 4, falls into the channel of 4 ahead of it.
        self.assertEqual(broken_sets([4, 12, 5], 2, 1), [])
        self.assertEqual(broken_sets([1, 2], 1, 0), [2])
        self.assertEqual(broken_sets([1, 2, 4], 2, 1), [])

    def test_one_behind(self):
        self.assertEqual(broken_sets([1, 2, 3], 0, 1), [])
        self.assertEqual(broken_sets([1, 2, 3], 0, 2), [])
        self.assertEqual(broken_sets([1, 2, 3], 1, 2), [])
        for codes in right_codes():
            for channel in range(len(codes)):
                for where in range(channel + 1, len(codes)):
                    self.assertEqual(broken_sets(codes, channel, where), [])

    def test_its_own_channel(self):
        for codes in right_codes():
            for channel in range(len(codes)):
                self.assertEqual(broken_sets(codes, channel, channel)[0], 0)

    def test_one_channel(self):
        self.assertEqual(broken_sets([0], 0, 0), [0])
        self.assertEqual(broken_sets([5], 0, 0), [0, 1, 4, 5])
        self.assertEqual(broken_sets([127], 0, 0), list(range(128)))

    def test_no_teeth_to_break(self):
        self.assertEqual(broken_sets([0, 127], 0, 0), [0])
        self.assertEqual(broken_sets([0, 127], 0, 1), [])

    def test_all_teeth(self):
        self.assertEqual(broken_sets([0, 127], 1, 0), [127])
        self.assertEqual(broken_sets([0, 127], 1, 1), list(range(127)))
        self.assertEqual(broken_sets([126, 127], 1, 1), list(range(0, 127, 2)))
        self.assertEqual(broken_sets([126, 127], 1, 0), list(range(1, 128, 2)))

    def test_held_against_a_walk_over_all_numbers(self):
        for codes in right_codes():
            for channel in range(len(codes)):
                for where in range(len(codes)):
                    told = broken_sets(codes, channel, where)
                    self.assertEqual(told, sets_by_walk(codes, channel, where), (codes, channel, where))

    def test_every_set_leads_to_one_channel_at_or_ahead_of_its_own(self):
        for codes in right_codes():
            for channel, code in enumerate(codes):
                told = [broken_sets(codes, channel, where) for where in range(channel + 1)]
                every = sorted(broken for sets in told for broken in sets)
                self.assertEqual(every, [broken for broken in range(128) if teeth_in(broken) <= teeth_in(code)])

    def test_it_falls_there_by_the_teeth_that_are_left(self):
        codes = first_codes(30, 7)
        for where in range(30):
            for broken in broken_sets(codes, 29, where):
                self.assertEqual(falls_at(codes, 7 - broken), where)

    def test_the_kinds(self):
        told = broken_sets([0, 1, 3], 2, 2)
        self.assertIs(type(told), list)
        self.assertEqual([type(broken) for broken in told], [int] * len(told))


class FewestBroken(unittest.TestCase):
    def test_ordinary(self):
        codes = [0, 1, 2, 4, 3, 5, 6, 7]
        self.assertEqual([fewest_broken(codes, 7, where) for where in range(8)], [3, 2, 2, 2, 1, 1, 1, 0])
        self.assertEqual(fewest_broken([3, 12, 15], 2, 0), 2)

    def test_teeth_are_counted_not_their_numbers(self):
        self.assertEqual(broken_sets([120, 7, 127], 2, 0)[0], 7)
        self.assertEqual(fewest_broken([120, 7, 127], 2, 0), 3)
        self.assertEqual(broken_sets([63, 112, 127], 2, 0)[0], 64)
        self.assertEqual(fewest_broken([63, 112, 127], 2, 0), 1)

    def test_its_own_channel(self):
        for codes in right_codes():
            for channel in range(len(codes)):
                told = fewest_broken(codes, channel, channel)
                self.assertEqual(told, 0)
                self.assertIs(type(told), int)

    def test_none_where_there_is_no_set(self):
        self.assertIsNone(fewest_broken([1, 2, 3], 0, 1))
        self.assertIsNone(fewest_broken([4, 12, 5], 2, 1))
        self.assertIsNone(fewest_broken([0, 127], 0, 1))

    def test_no_teeth_and_all_teeth(self):
        self.assertEqual(fewest_broken([0], 0, 0), 0)
        self.assertEqual(fewest_broken([127], 0, 0), 0)
        self.assertEqual(fewest_broken([0, 127], 1, 0), 7)
        self.assertEqual(fewest_broken([126, 127], 1, 0), 1)

    def test_held_against_the_sets(self):
        for codes in right_codes():
            for channel in range(len(codes)):
                for where in range(len(codes)):
                    counts = [len(teeth_in(broken)) for broken in sets_by_walk(codes, channel, where)]
                    expected = min(counts) if counts else None
                    self.assertEqual(fewest_broken(codes, channel, where), expected)


class WhereThereIsASet(unittest.TestCase):
    def test_all_pairs(self):
        for codes in right_codes():
            for channel, code in enumerate(codes):
                for where, other in enumerate(codes):
                    common = teeth_in(code) & teeth_in(other)
                    barred = any(common <= teeth_in(ahead) for ahead in codes[:where])
                    told = broken_sets(codes, channel, where)
                    self.assertEqual(told != [], not barred, (codes, channel, where))
                    if told:
                        lacking = teeth_in(code) - teeth_in(other)
                        least = [broken for broken in told if len(teeth_in(broken)) == len(lacking)]
                        self.assertEqual([teeth_in(broken) for broken in least], [lacking])
                        self.assertEqual(fewest_broken(codes, channel, where), len(lacking))
                    else:
                        self.assertIsNone(fewest_broken(codes, channel, where))


class NothingIsChanged(unittest.TestCase):
    def test_the_codes_stay(self):
        codes = [3, 12, 15]
        for where in range(3):
            broken_sets(codes, 2, where)
            fewest_broken(codes, 2, where)
        self.assertEqual(codes, [3, 12, 15])

    def test_the_list_is_the_askers_own(self):
        codes = [3, 12, 15]
        told = broken_sets(codes, 2, 1)
        none = broken_sets(codes, 0, 1)
        told.append(99)
        told[0] = 77
        none.append(99)
        self.assertEqual(broken_sets(codes, 2, 1), [3, 7, 11])
        self.assertEqual(broken_sets(codes, 0, 1), [])
        self.assertEqual(codes, [3, 12, 15])

    def test_what_becomes_of_the_codes_changes_nothing_told(self):
        codes = [3, 12, 15]
        told = broken_sets(codes, 2, 1)
        codes[0] = 127
        codes.append(64)
        self.assertEqual(told, [3, 7, 11])


if __name__ == "__main__":
    unittest.main()
