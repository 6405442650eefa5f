"""Points [3], [22] to [26]: whole runs of many machines, each held against another way to find them."""

import random
import unittest

from linecaster.bars import first_codes, wrong_falls
from linecaster.cases import SIGNS, codes_of
from linecaster.keys import keys_of
from linecaster.machine import Machine
from linecaster.matrices import channels_of

CASTINGS = (1, 2, 3, 7, 20)


class Slow:
    """Another way to play keys: each matrix and wedge has a place and the number of the step that brought it there."""

    def __init__(self, case, keys, casting, broken):
        self.case, self.keys, self.casting = case, keys, casting
        self.things, self.steps = [], 0
        for channel, (sign, width, teeth, many) in enumerate(case):
            lost = [teeth_lost for number, teeth_lost in broken if number == channel]
            for number in range(many):
                left = teeth ^ (lost[number] if number < len(lost) else 0)
                self.bring({"sign": sign, "teeth": left}, channel)
        self.tick_number, self.struck, self.sent_at, self.waits, self.cast = 0, 0, None, 0, []

    def bring(self, thing, place):
        self.steps += 1
        if "place" not in thing:
            self.things.append(thing)
        thing["place"], thing["step"] = place, self.steps

    def at(self, place):
        return sorted((thing for thing in self.things if thing["place"] == place), key=lambda thing: thing["step"])

    def shown(self, place):
        return [(thing["sign"], thing["teeth"]) if "teeth" in thing else " " for thing in self.at(place)]

    def channel_struck(self):
        signs = [channel[0] for channel in self.case]
        left = self.keys[self.struck:]
        return signs.index(left[0]) if left and left[0] in signs else None

    def is_stuck(self):
        channel = self.channel_struck()
        return channel is not None and not (self.at(channel) or self.at("caster") or self.at("bar"))

    def is_resting(self):
        places = {thing["place"] for thing in self.things}
        return self.struck == len(self.keys) and not places & {"line", "caster", "bar"}

    def play(self):
        if self.is_stuck() or self.is_resting():
            return False
        self.tick_number += 1
        for thing in self.at("bar")[:1]:
            missing = [thing["teeth"] & ~channel[2] for channel in self.case]
            self.bring(thing, missing.index(0))
        if self.at("caster") and self.tick_number == self.sent_at + self.casting:
            self.cast.append("".join(thing["sign"] for thing in self.at("caster")))
            for thing in self.at("caster"):
                self.bring(thing, "bar" if "teeth" in thing else "nowhere")
        self.play_key(self.keys[self.struck:][:1])
        return True

    def play_key(self, key):
        if key == " ":
            self.bring({"sign": " "}, "line")
        elif key == "/":
            if self.at("caster"):
                return
            for thing in self.at("line"):
                self.bring(thing, "caster")
            self.sent_at = self.tick_number
        elif key:
            lying = self.at(self.channel_struck())
            if not lying:
                self.waits += 1
                return
            self.bring(lying[0], "line")
        self.struck += len(key)

    def told(self):
        places = [self.shown(channel) for channel in range(len(self.case))]
        state = (places, self.shown("line"), self.shown("caster"), self.shown("bar"), self.cast)
        return state + (self.is_stuck(), self.is_resting(), self.waits, self.tick_number)


def told_of(machine):
    state = (machine.channels(), machine.gathered(), machine.in_caster(), machine.bar(), machine.slugs())
    return state + (machine.stuck(), machine.resting(), machine.waited(), machine.ticks())


def some_lines(chance, signs, most_lines=6):
    return [
        ["".join(chance.choices(signs, k=chance.randint(1, 3))) for word in range(chance.randint(1, 3))]
        for line in range(chance.randint(0, most_lines))
    ]


def some_case(chance, right, most=4):
    many = chance.randint(1, 6)
    codes = first_codes(many, 3)
    if not right:
        codes = chance.sample(range(128) if chance.random() < 0.3 else range(8), many)
    signs = chance.sample(SIGNS, many)
    return [(sign, 10, code, chance.randint(0, most)) for sign, code in zip(signs, codes)]


def some_broken(chance, case):
    broken = []
    for channel, (sign, width, teeth, many) in enumerate(case):
        sets = [lost for lost in range(1, teeth + 1) if lost & teeth == lost]
        if sets:
            broken += [(channel, chance.choice(sets)) for again in range(chance.randint(0, many))]
    chance.shuffle(broken)
    return broken


def wants_more(case, line):
    return [sign for sign, width, teeth, many in case if " ".join(line).count(sign) > many]


class Times:
    """The ticks of all that happens with whole teeth and right codes, found without playing, each by earlier ones."""

    def __init__(self, case, lines, casting):
        self.many = {sign: many for sign, width, teeth, many in case}
        self.falls = {sign: [] for sign in self.many}
        self.struck = {sign: 0 for sign in self.many}
        self.casts, self.last_key, self.free_from, self.last_fall, self.waits = [], 0, 0, 0, 0
        self.is_stuck = not all([self.line(" ".join(line), casting) for line in lines])
        self.last = max([self.last_key, self.last_fall])
        if self.is_stuck:
            self.waits += self.last - self.last_key

    def line(self, text, casting):
        # Behind a line that can't be gathered no other one is looked at.
        if self.casts and self.casts[-1] is None:
            return False
        for key in text:
            if not self.key(key):
                self.casts.append(None)
                return False
        self.last_key = max(self.last_key + 1, self.free_from)
        self.free_from = self.last_key + casting
        self.casts.append(self.free_from)
        for sign in text.replace(" ", ""):
            self.last_fall = max(self.last_fall, self.free_from) + 1
            self.falls[sign].append(self.last_fall)
        return True

    def key(self, key):
        at = self.last_key + 1
        if key != " ":
            self.struck[key] += 1
            lack = self.struck[key] - self.many[key]
            if lack > len(self.falls[key]):
                return False
            if lack > 0:
                at = max(at, self.falls[key][lack - 1])
        self.waits += at - self.last_key - 1
        self.last_key = at
        return True


class Runs(unittest.TestCase):
    def goes_as(self, case, keys, casting, broken):
        machine, slow = Machine(case, keys, casting, broken), Slow(case, keys, casting, broken)
        whole = sorted(matrix for channel in channels_of(case, broken) for matrix in channel)
        self.assertEqual(told_of(machine), slow.told())
        going = True
        while going:
            going = machine.tick()
            self.assertEqual((going, told_of(machine)), (slow.play(), slow.told()), (case, keys, casting, broken))
            self.keeps_all(machine, whole)
        self.assertTrue(machine.stuck() or machine.resting())
        self.assertLessEqual(machine.ticks(), self.bound(keys, casting))
        return machine

    def keeps_all(self, machine, whole):
        lying = [matrix for channel in machine.channels() for matrix in channel]
        other = machine.gathered() + machine.in_caster() + machine.bar()
        self.assertEqual(sorted(lying + [matrix for matrix in other if matrix != " "]), whole)
        self.assertNotIn(" ", machine.bar() + lying)

    def bound(self, keys, casting):
        signs = [key for key in keys if key not in " /"]
        return len(keys) + len(signs) + keys.count("/") * casting

    def test_right_codes_and_whole_teeth(self):
        chance = random.Random(25)
        rests = stucks = 0
        for again in range(400):
            case = some_case(chance, True)
            signs = [sign for sign, width, teeth, many in case]
            lines, casting = some_lines(chance, signs), chance.choice(CASTINGS)
            self.assertEqual(wrong_falls(codes_of(case)), [])
            machine = self.goes_as(case, keys_of(lines), casting, [])
            wrong = [number for number, line in enumerate(lines) if wants_more(case, line)]
            self.assertEqual(machine.stuck(), wrong != [])
            self.assertEqual(machine.resting(), wrong == [])
            self.assertEqual(machine.slugs(), [" ".join(line) for line in lines[:wrong[0] if wrong else None]])
            if wrong:
                self.stuck_within(machine, case, lines[wrong[0]])
                stucks += 1
            else:
                self.assertEqual(machine.channels(), channels_of(case, []))
                rests += 1
        self.assertGreater(min(rests, stucks), 50)

    def stuck_within(self, machine, case, line):
        text = " ".join(line)
        gathered = "".join(part[0] for part in machine.gathered())
        self.assertTrue(text.startswith(gathered))
        sign = text[len(gathered)]
        self.assertIn(sign, wants_more(case, line))
        self.assertEqual(gathered.count(sign), [channel[3] for channel in case if channel[0] == sign][0])
        self.assertEqual((machine.in_caster(), machine.bar()), ([], []))

    def test_each_matrix_lies_in_its_own_channel(self):
        chance = random.Random(26)
        for again in range(150):
            case = some_case(chance, True)
            lines = some_lines(chance, [channel[0] for channel in case])
            machine = Machine(case, keys_of(lines), chance.choice(CASTINGS))
            while machine.tick():
                for channel, matrices in zip(case, machine.channels()):
                    self.assertEqual(set(matrices) - {(channel[0], channel[2])}, set())

    def test_wrong_codes_and_broken_teeth(self):
        chance = random.Random(23)
        others = stucks = 0
        for again in range(900):
            case = some_case(chance, again % 3 == 0, chance.choice((4, 8)))
            lines = some_lines(chance, [channel[0] for channel in case], 12)
            broken = some_broken(chance, case) if again % 3 != 1 else []
            machine = self.goes_as(case, keys_of(lines), chance.choice(CASTINGS), broken)
            if machine.slugs() != [" ".join(line) for line in lines[:len(machine.slugs())]]:
                others += 1
            if machine.stuck():
                stucks += 1
        self.assertGreater(min(others, stucks), 50)

    def test_the_ticks_of_all_that_happens(self):
        chance = random.Random(22)
        waits = 0
        for again in range(400):
            case = some_case(chance, True)
            lines = some_lines(chance, [channel[0] for channel in case], 9)
            casting = chance.choice(CASTINGS)
            times = Times(case, lines, casting)
            machine = Machine(case, keys_of(lines), casting)
            casts = []
            while machine.tick():
                casts += [machine.ticks()] * (len(machine.slugs()) - len(casts))
            self.assertEqual(casts, [at for at in times.casts if at is not None])
            self.assertEqual(machine.stuck(), times.is_stuck)
            self.assertEqual((machine.ticks(), machine.waited()), (times.last, times.waits), (case, lines, casting))
            waits += machine.waited() > 0
        self.assertGreater(waits, 50)

    def test_run_and_ticks_come_to_the_same(self):
        chance = random.Random(24)
        for again in range(200):
            case = some_case(chance, again % 2 == 0)
            keys = keys_of(some_lines(chance, [channel[0] for channel in case]))
            casting, broken = chance.choice(CASTINGS), some_broken(chance, case)
            ticked, run = Machine(case, keys, casting, broken), Machine(case, keys, casting, broken)
            many = 0
            while ticked.tick():
                many += 1
            self.assertEqual((run.run(), run.run()), (many, 0))
            self.assertEqual(told_of(run), told_of(ticked))
            self.assertEqual(run.ticks(), many)

    def test_each_tick_that_tells_true_changes_something(self):
        chance = random.Random(27)
        for again in range(100):
            case = some_case(chance, again % 2 == 0)
            keys = keys_of(some_lines(chance, [channel[0] for channel in case]))
            casting = chance.choice(CASTINGS)
            machine = Machine(case, keys, casting, some_broken(chance, case))
            places, same = told_of(machine)[:5], 0
            while machine.tick():
                # A line that has ticks left to go in the caster is all that can't be seen to change.
                same = same + 1 if told_of(machine)[:5] == places else 0
                self.assertLess(same, casting)
                places = told_of(machine)[:5]
            before = told_of(machine)
            self.assertIs(machine.tick(), False)
            self.assertEqual(told_of(machine), before)

    def test_long_keys(self):
        case = [(sign, 10, code, 3) for sign, code in zip(SIGNS, first_codes(30, 7))]
        lines = [[SIGNS[:10], SIGNS[10:20], SIGNS[20:]]] * 100
        machine = Machine(case, keys_of(lines), 20)
        self.assertLessEqual(machine.run(), self.bound(keys_of(lines), 20))
        self.assertEqual(machine.slugs(), [" ".join(line) for line in lines])
        self.assertTrue(machine.resting())


if __name__ == "__main__":
    unittest.main()
