"""Points [26] to [28]: the need of keys, its peaks, and machines with as many matrices as the need, or one less."""

import random
import unittest

from linecaster.bars import first_codes
from linecaster.cases import SIGNS
from linecaster.errors import CasterError, NoKeys
from linecaster.keys import keys_of
from linecaster.machine import Machine
from linecaster.needs import need_of, peaks_of

CASE = [("a", 10, 1, 2), ("n", 12, 2, 1), ("t", 7, 3, 0)]
FULL = [(sign, 10, code, 1) for sign, code in zip(SIGNS, first_codes(30, 7))]

# Keys, casting time, need and peaks, each reckoned by hand.
BY_HAND = (
    ("", 1, [0, 0, 0], [0, 0, 0]),
    ("a/", 1, [1, 0, 0], [1, 0, 0]),
    ("t/", 20, [0, 0, 1], [0, 0, 1]),
    ("tan/", 2, [1, 1, 1], [2, 3, 1]),
    ("t an/", 2, [1, 1, 1], [3, 4, 1]),
    # The first a is on the bar when the second one is struck at tick 3.
    ("a/a/", 1, [2, 0, 0], [3, 0, 0]),
    ("a/a/", 2, [2, 0, 0], [3, 0, 0]),
    ("a/a/", 20, [2, 0, 0], [3, 0, 0]),
    ("a/a/a/", 1, [2, 0, 0], [3, 0, 0]),
    ("a/a/a/", 20, [2, 0, 0], [3, 0, 0]),
    # One a falls at tick 7, at which the next one is struck: two are out again, but were so behind tick 4.
    ("an a/na/", 1, [2, 2, 0], [4, 6, 0]),
    ("an a/na/", 2, [3, 2, 0], [7, 6, 0]),
    ("an a/na/", 20, [3, 2, 0], [7, 6, 0]),
    # Cast at tick 4, and one falls at each tick from 5 on.
    ("aa/aa/aa/", 1, [3, 0, 0], [4, 0, 0]),
    ("aa/aa/aa/", 2, [4, 0, 0], [5, 0, 0]),
    ("aa/aa/aa/", 20, [4, 0, 0], [5, 0, 0]),
    # The a falls at tick 4, ahead of the key of tick 4, and with casting time 2 behind that key.
    ("a/na/", 1, [1, 1, 0], [1, 3, 0]),
    ("a/na/", 2, [2, 1, 0], [4, 3, 0]),
    # The caster holds the second line back till tick 22: the n falls at tick 23, ahead of that tick's key, the a later.
    ("n/a/na/", 20, [2, 1, 0], [24, 1, 0]),
    ("n/a/na/", 1, [1, 1, 0], [3, 1, 0]),
)

# Keys that are not good, and the number of the first wrong one.
WRONG_KEYS = (
    ("/", 0), (" ", 0), ("b/", 0), ("a", 1), ("an/t", 4), ("a//", 2), ("a  n/", 2), ("a /", 2), ("an/N/", 3),
    ("n\n/", 1),
)


def with_many(case, numbers):
    return [(sign, width, teeth, many) for (sign, width, teeth, old), many in zip(case, numbers)]


def struck_and_fallen(keys, casting):
    """For each sign's key its tick and the tick at which its matrix falls again, where no key waits for a matrix."""
    last_key = free_from = last_fall = 0
    ticks, line = [], []
    for key in keys:
        last_key += 1
        if key == "/":
            last_key = max(last_key, free_from)
            free_from = last_key + casting
            for sign, struck in line:
                last_fall = max(last_fall, free_from) + 1
                ticks.append((sign, struck, last_fall))
            line = []
        elif key != " ":
            line.append((key, last_key))
    return ticks


def outs_of(sign, ticks):
    """How many of a sign are out behind each tick, from the first one on."""
    own = [(struck, fallen) for other, struck, fallen in ticks if other == sign]
    last = max([fallen for struck, fallen in own], default=0)
    return [sum(struck <= tick < fallen for struck, fallen in own) for tick in range(1, last + 1)]


def some_case(chance):
    many = chance.randint(1, 6)
    signs = chance.sample(SIGNS, many)
    return [(sign, 10, code, chance.randint(0, 40)) for sign, code in zip(signs, first_codes(many, 3))]


def some_keys(chance, case, most_lines=7):
    # At times the last channel's sign is struck by no key.
    signs = [channel[0] for channel in case][:max(1, len(case) - chance.randint(0, 1))]
    return keys_of([
        ["".join(chance.choices(signs, k=chance.randint(1, 4))) for word in range(chance.randint(1, 3))]
        for line in range(chance.randint(0, most_lines))
    ])


def places_of(machine):
    places = (machine.gathered(), machine.in_caster(), machine.bar())
    return places + (machine.slugs(), machine.ticks(), machine.resting(), machine.stuck(), machine.waited())


class Needs(unittest.TestCase):
    def test_by_hand(self):
        for keys, casting, need, peaks in BY_HAND:
            with self.subTest(keys=keys, casting=casting):
                self.assertEqual(need_of(CASE, keys, casting), need)
                self.assertEqual(peaks_of(CASE, keys, casting), peaks)

    def test_kinds(self):
        for told in (need_of(CASE, "an a/na/", 2), peaks_of(CASE, "an a/na/", 2), need_of(CASE, "", 1)):
            self.assertIs(type(told), list)
            self.assertEqual([type(number) for number in told], [int] * 3)

    def test_no_keys(self):
        for case in (CASE, CASE[:1], FULL):
            for casting in (1, 2, 20):
                self.assertEqual(need_of(case, "", casting), [0] * len(case))
                self.assertEqual(peaks_of(case, "", casting), [0] * len(case))

    def test_the_need_hangs_on_the_keys_alone(self):
        for keys, casting, need, peaks in BY_HAND:
            for numbers in ((0, 0, 0), (0, 1, 40), (40, 40, 40), (1, 0, 2)):
                case = with_many(CASE, numbers)
                self.assertEqual(need_of(case, keys, casting), need)
                self.assertEqual(peaks_of(case, keys, casting), peaks)

    def test_more_than_forty_in_one_line(self):
        self.assertEqual(need_of(CASE, "a" * 41 + "/", 1), [41, 0, 0])
        self.assertEqual(peaks_of(CASE, "a" * 41 + "/", 1), [41, 0, 0])
        keys = "a" * 45 + " " + "a" * 45 + "n/"
        self.assertEqual(need_of(CASE, keys, 20), [90, 1, 0])
        self.assertEqual(peaks_of(CASE, keys, 20), [91, 92, 0])

    def test_more_than_forty_over_several_lines(self):
        # Thirty of the first line are in the caster till tick 51, while those of the second one are struck.
        self.assertEqual(need_of(CASE, "a" * 30 + "/" + "a" * 15 + "/", 20), [45, 0, 0])
        self.assertEqual(peaks_of(CASE, "a" * 30 + "/" + "a" * 15 + "/", 20), [46, 0, 0])

    def test_thirty_channels(self):
        self.assertEqual(need_of(FULL, f"{SIGNS}/{SIGNS}/", 20), [2] * 30)
        self.assertEqual(peaks_of(FULL, f"{SIGNS}/{SIGNS}/", 20), list(range(32, 62)))
        self.assertEqual(need_of(FULL, f"{SIGNS}/", 1), [1] * 30)
        self.assertEqual(peaks_of(FULL, f"{SIGNS}/", 1), list(range(1, 31)))

    def test_one_channel_without_teeth(self):
        self.assertEqual(need_of([("'", 1, 0, 0)], "'' '/'/", 1), [4])
        self.assertEqual(peaks_of([("'", 1, 0, 0)], "'' '/'/", 1), [6])

    def test_a_need_that_is_reached_more_than_once(self):
        keys = "a/" * 50
        outs = outs_of("a", struck_and_fallen(keys, 1))
        self.assertGreater(outs.count(2), 40)
        self.assertEqual((need_of(CASE, keys, 1), peaks_of(CASE, keys, 1)), ([2, 0, 0], [3, 0, 0]))

    def test_against_ticks_found_without_playing(self):
        chance = random.Random(26)
        for again in range(300):
            case = some_case(chance)
            keys, casting = some_keys(chance, case), chance.choice((1, 2, 3, 7, 20))
            ticks = struck_and_fallen(keys, casting)
            outs = [outs_of(channel[0], ticks) for channel in case]
            needs = [max(numbers, default=0) for numbers in outs]
            peaks = [numbers.index(need) + 1 if need else 0 for numbers, need in zip(outs, needs)]
            self.assertEqual(need_of(case, keys, casting), needs, (case, keys, casting))
            self.assertEqual(peaks_of(case, keys, casting), peaks, (case, keys, casting))

    def test_long_keys(self):
        keys = keys_of([[SIGNS, SIGNS[:9]]] * 60)
        ticks = struck_and_fallen(keys, 20)
        self.assertEqual(need_of(FULL, keys, 20), [max(outs_of(sign, ticks)) for sign in SIGNS])


class Refusing(unittest.TestCase):
    def test_keys_that_are_not_good(self):
        for keys, at in WRONG_KEYS:
            for ask in (need_of, peaks_of):
                before = list(CASE)
                with self.assertRaises(NoKeys) as caught:
                    ask(CASE, keys, 1)
                self.assertEqual(caught.exception.at, at)
                self.assertIsInstance(caught.exception, CasterError)
                self.assertEqual(CASE, before)

    def test_a_sign_of_which_there_is_no_matrix_is_not_refused(self):
        self.assertEqual(need_of(CASE, "tt/", 1), [0, 0, 2])


class Keeping(unittest.TestCase):
    def test_what_is_handed_in_stays(self):
        case = list(CASE)
        for ask in (need_of, peaks_of):
            ask(case, "an a/na/", 2)
            self.assertEqual(case, CASE)

    def test_the_lists_are_the_askers_own(self):
        for ask in (need_of, peaks_of):
            case = list(CASE)
            told = ask(case, "an a/na/", 2)
            before = list(told)
            case.clear()
            self.assertEqual(told, before)
            told.clear()
            self.assertEqual(ask(CASE, "an a/na/", 2), before)


class MachinesByNeed(unittest.TestCase):
    def goes_as_free_running(self, case, keys, casting):
        free = Machine(with_many(case, [keys.count(channel[0]) for channel in case]), keys, casting)
        machine = Machine(case, keys, casting)
        going = True
        while going:
            self.assertEqual(places_of(machine), places_of(free))
            self.assertEqual(machine.waited(), 0)
            going = free.tick()
            self.assertIs(machine.tick(), going)
        self.assertTrue(machine.resting())

    def some(self, seed, many):
        chance = random.Random(seed)
        for again in range(many):
            case = some_case(chance)
            keys, casting = some_keys(chance, case), chance.choice((1, 2, 3, 7, 20))
            yield chance, case, keys, casting, need_of(case, keys, casting)

    def test_just_the_need(self):
        for keys, casting, need, peaks in BY_HAND:
            self.goes_as_free_running(with_many(CASE, need), keys, casting)
        for chance, case, keys, casting, need in self.some(27, 150):
            self.goes_as_free_running(with_many(case, need), keys, casting)

    def test_the_need_or_more(self):
        for chance, case, keys, casting, need in self.some(28, 100):
            more = [number + chance.randint(0, 2) for number in need]
            self.goes_as_free_running(with_many(case, more), keys, casting)

    def test_one_less_in_a_channel(self):
        waits = stucks = 0
        for chance, case, keys, casting, need in self.some(29, 200):
            for channel in [number for number, some in enumerate(need) if some]:
                less = list(need)
                less[channel] -= 1
                machine = Machine(with_many(case, less), keys, casting)
                machine.run()
                self.assertTrue(machine.waited() > 0 or machine.stuck(), (case, keys, casting, less))
                waits += machine.waited() > 0 and not machine.stuck()
                stucks += machine.stuck()
        self.assertGreater(min(waits, stucks), 50)

    def test_fewer_in_one_channel_and_more_in_all_others(self):
        for chance, case, keys, casting, need in self.some(30, 100):
            for channel in [number for number, some in enumerate(need) if some]:
                numbers = [number + chance.randint(0, 3) for number in need]
                numbers[channel] = chance.randint(0, need[channel] - 1)
                machine = Machine(with_many(case, numbers), keys, casting)
                machine.run()
                self.assertTrue(machine.waited() > 0 or machine.stuck(), (case, keys, casting, numbers))

    def test_behind_its_peak_a_channel_with_just_the_need_is_empty(self):
        for chance, case, keys, casting, need in self.some(31, 100):
            peaks = peaks_of(case, keys, casting)
            machine = Machine(with_many(case, need), keys, casting)
            emptied = [0] * len(case)
            while machine.tick():
                for channel, matrices in enumerate(machine.channels()):
                    if need[channel] and not matrices and not emptied[channel]:
                        emptied[channel] = machine.ticks()
            self.assertEqual(peaks, emptied)


if __name__ == "__main__":
    unittest.main()
