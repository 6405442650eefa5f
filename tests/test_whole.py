"""Point [3], the promise over the whole program: copy to paragraphs, to lines, to keys, to slugs."""

import itertools
import random
import unittest
from fractions import Fraction

from linecaster.bars import falls_at, first_codes, put_right, wrong_falls
from linecaster.breakage import broken_sets, fewest_broken
from linecaster.breaking import breaks_of, broken_lines
from linecaster.cases import SIGNS, codes_of, look_at_case
from linecaster.casetexts import read_case, shown_case
from linecaster.copies import read_copy, shown_copy
from linecaster.desk import Desk
from linecaster.errors import Loose, NoBreak, Tight
from linecaster.jobs import opened_jobs
from linecaster.keys import keys_of, lines_of
from linecaster.lines import body_of, full_gap, last_gap
from linecaster.looks import first_unlike
from linecaster.machine import Machine
from linecaster.needs import need_of

CASE_TEXT = """\
e 9 0000001 6
n 11 0000010 4
i 5 0000100 4
r 8 0001000 4
t 7 0010000 4
a 10 0000011 4
s 8 0000101 4
l 5 0000110 3
. 4 0001001 2
' 4 0001010 1"""
COPY = (
    "measure 120 gaps 3 6 14 set it's a tale set in lines. a line is a set as near as it is it's a line. end "
    "measure 90 gaps 2 5 20 2 times ( set a rat ate a net. an area is a sea ate a tale end )"
)


def some_case(chance, least=1):
    many = chance.randint(2, 6)
    codes = put_right(chance.sample(range(16), many))
    signs = chance.sample(SIGNS, many)
    return [(sign, chance.randint(3, 9), code, chance.randint(least, 8)) for sign, code in zip(signs, codes)]


def some_jobs(chance, case):
    signs = [channel[0] for channel in case]
    jobs = [("measure", chance.randint(25, 70)), ("gaps", chance.randint(0, 3), 4, chance.randint(8, 30))]
    for again in range(chance.randint(1, 3)):
        words = ["".join(chance.choices(signs, k=chance.randint(1, 4))) for word in range(chance.randint(1, 8))]
        jobs.append(("set", words))
    return [("times", 2, jobs)] if chance.random() < 0.3 else jobs


def all_breaks(many):
    for cuts in itertools.product((True, False), repeat=many - 1):
        yield [at + 1 for at, cut in enumerate(cuts) if cut] + [many]


def gap_of(case, line, measure, gaps, last):
    """The line's gap as a fraction, or None where it can't be set."""
    low, ideal, high = gaps
    body = sum(channel[1] for sign in "".join(line) for channel in case if channel[0] == sign)
    if last and body + (len(line) - 1) * ideal <= measure:
        return Fraction(ideal)
    if len(line) == 1:
        return Fraction(0) if body == measure else None
    gap = Fraction(measure - body, len(line) - 1)
    return gap if low <= gap <= high else None


def cost_of(case, words, breaks, measure, gaps):
    """What breaks cost, all lines together, or None where one of them can't be set."""
    cost = 0
    for start, end in zip([0] + breaks, breaks):
        gap = gap_of(case, words[start:end], measure, gaps, end == len(words))
        if gap is None:
            return None
        if end < len(words) or gap != gaps[1]:
            body = sum(channel[1] for sign in "".join(words[start:end]) for channel in case if channel[0] == sign)
            cost += (measure - body - (end - start - 1) * gaps[1]) ** 2
    return cost


class Whole(unittest.TestCase):
    def set_paragraph(self, case, paragraph):
        """The paragraph's lines and gaps, or None where it can't be broken; each step held against the promise."""
        measure, gaps, words = paragraph
        costs = [cost_of(case, words, breaks, measure, gaps) for breaks in all_breaks(len(words))]
        try:
            breaks = breaks_of(case, words, measure, gaps)
        except NoBreak as error:
            self.assertEqual(set(costs), {None})
            self.assertEqual(error.words, self.most_in_full_lines(case, paragraph))
            return None
        least = min(cost for cost in costs if cost is not None)
        self.assertEqual(cost_of(case, words, breaks, measure, gaps), least)
        lines = broken_lines(words, breaks)
        self.assertEqual([word for line in lines for word in line], words)
        lasts = [end == len(words) for end in breaks]
        return [(line, self.gap(case, line, measure, gaps, last)) for line, last in zip(lines, lasts)]

    def most_in_full_lines(self, case, paragraph):
        measure, gaps, words = paragraph
        reached = [0]
        for end in range(1, len(words) + 1):
            if any(gap_of(case, words[start:end], measure, gaps, False) is not None for start in reached):
                reached.append(end)
        return reached[-1]

    def gap(self, case, line, measure, gaps, last):
        told = (last_gap if last else full_gap)(case, line, measure, gaps)
        gap = Fraction(*told)
        if len(line) > 1 or last:
            self.assertEqual(gap, gap_of(case, line, measure, gaps, last))
        if not last:
            self.assertEqual(body_of(case, line) + (len(line) - 1) * gap, measure)
        return told

    def plays(self, case, lines, casting):
        keys = keys_of(lines)
        self.assertEqual(lines_of(case, keys), lines)
        machine = Machine(case, keys, casting)
        while machine.tick():
            self.each_in_one_place(case, machine)
        short = [
            number for number, line in enumerate(lines)
            if any("".join(line).count(sign) > many for sign, width, teeth, many in case)
        ]
        self.assertEqual((machine.stuck(), machine.resting()), (short != [], short == []))
        self.assertEqual(first_unlike(case, keys, machine.slugs()), (short[0], 0) if short else None)
        return machine

    def each_in_one_place(self, case, machine):
        elsewhere = machine.gathered() + machine.in_caster() + machine.bar()
        for (sign, width, teeth, many), matrices in zip(case, machine.channels()):
            self.assertEqual(matrices, [(sign, teeth)] * (many - elsewhere.count((sign, teeth))))

    def holds_of_the_need(self, case, keys, casting):
        need = need_of(case, keys, casting)
        for less in [None] + [channel for channel, some in enumerate(need) if some]:
            numbers = [some - (channel == less) for channel, some in enumerate(need)]
            machine = Machine([channel[:3] + (many,) for channel, many in zip(case, numbers)], keys, casting)
            machine.run()
            if less is None:
                self.assertEqual((machine.waited(), machine.resting()), (0, True))
                self.assertIsNone(first_unlike(case, keys, machine.slugs()))
            else:
                self.assertTrue(machine.waited() > 0 or machine.stuck())

    def test_some_copy_on_its_whole_way(self):
        chance = random.Random(3)
        seen = {"broken": 0, "not broken": 0, "rest": 0, "stuck": 0}
        for again in range(300):
            case, casting = some_case(chance, least=again % 5), chance.choice((1, 2, 5, 20))
            look_at_case(case)
            text = shown_copy(some_jobs(chance, case))
            paragraphs = opened_jobs(read_copy(text))
            rows = [self.set_paragraph(case, paragraph) for paragraph in paragraphs]
            desk = Desk(shown_case(case), casting)
            if None in rows:
                with self.assertRaises(NoBreak):
                    desk.say(f"copy {text}")
                seen["not broken"] += 1
                continue
            seen["broken"] += 1
            lines = [line for row in rows for line, gap in row]
            machine = self.plays(case, lines, casting)
            self.holds_of_the_need(case, keys_of(lines), casting)
            self.desk_says(desk, text, [part for row in rows for part in row], machine)
            seen["stuck" if machine.stuck() else "rest"] += 1
        self.assertGreater(min(seen.values()), 20, seen)

    def desk_says(self, desk, text, rows, machine):
        lines = [line for line, gap in rows]
        gaps = [str(Fraction(*gap)) for line, gap in rows]
        self.assertEqual(desk.say(f"copy {text}"), [str(len(lines))])
        self.assertEqual(desk.say("lines"), [" ".join(line) for line in lines])
        self.assertEqual(desk.say("gaps"), gaps)
        self.assertEqual(desk.say("keys"), [keys_of(lines)])
        self.assertEqual(desk.say("start"), [])
        self.assertEqual(desk.say("run"), [str(machine.ticks())])
        self.assertEqual(desk.say("slugs"), machine.slugs())
        self.assertEqual(desk.say("state"), ["stuck" if machine.stuck() else "rest"])
        self.assertEqual(desk.say("waited"), [str(machine.waited())])

    def test_a_text_from_copy_to_slugs(self):
        case = read_case(CASE_TEXT)
        self.assertEqual(wrong_falls(codes_of(case)), [])
        paragraphs = opened_jobs(read_copy(COPY))
        self.assertEqual(len(paragraphs), 3)
        lines = []
        for measure, gaps, words in paragraphs:
            broken = broken_lines(words, breaks_of(case, words, measure, gaps))
            self.assertGreater(len(broken), 1)
            lines += broken
        machine = self.plays(case, lines, 7)
        self.assertTrue(machine.resting())
        self.assertGreater(machine.waited(), 0)
        self.holds_of_the_need(case, keys_of(lines), 7)
        words = [word for measure, gaps, some in paragraphs for word in some]
        self.assertEqual(" ".join(machine.slugs()).split(" "), words)

    def test_the_need_told_by_a_desk_is_enough(self):
        desk = Desk(CASE_TEXT, 7)
        desk.say(f"copy {COPY}")
        need = [int(word) for word in desk.say("need")[0].split(" ")]
        case = [channel[:3] + (many,) for channel, many in zip(read_case(CASE_TEXT), need)]
        other = Desk(shown_case(case), 7)
        for row in (f"copy {COPY}", "start", "run"):
            other.say(row)
        self.assertEqual((other.say("waited"), other.say("state")), (["0"], ["rest"]))
        self.assertIsNone(first_unlike(case, other.say("keys")[0], other.say("slugs")))

    def test_unlike_teeth_put_right_lead_each_matrix_home(self):
        chance = random.Random(9)
        wrong = 0
        for again in range(150):
            codes = chance.sample(range(32), chance.randint(2, 8))
            self.assertEqual(
                wrong_falls(codes),
                [
                    (channel, [code & ~ahead == 0 for ahead in codes].index(True))
                    for channel, code in enumerate(codes) if any(code & ~ahead == 0 for ahead in codes[:channel])
                ],
            )
            wrong += wrong_falls(codes) != []
            right = put_right(codes)
            self.assertEqual((wrong_falls(right), sorted(right)), ([], sorted(codes)))
            case = [(sign, 5, code, 2) for sign, code in zip(SIGNS, right)]
            lines = [chance.choices([channel[0] for channel in case], k=2) for line in range(5)]
            self.assertTrue(self.plays(case, lines, 2).resting())
        self.assertGreater(wrong, 50)

    def test_broken_teeth_are_told_of_matrices_that_fell_elsewhere(self):
        chance = random.Random(11)
        elsewhere = 0
        for again in range(150):
            codes = first_codes(8, 3)
            case = [(sign, 5, code, 1) for sign, code in zip("abcdefgh", codes)]
            channel = chance.randint(1, 7)
            lost = chance.choice([teeth for teeth in range(1, 8) if teeth & codes[channel] == teeth])
            machine = Machine(case, case[channel][0] + "/", 1, [(channel, lost)])
            machine.run()
            matrix = (case[channel][0], codes[channel] - lost)
            where = [matrix in matrices for matrices in machine.channels()].index(True)
            self.assertEqual(where, falls_at(codes, codes[channel] - lost))
            sets = broken_sets(codes, channel, where)
            self.assertIn(lost, sets)
            fewest = fewest_broken(codes, channel, where)
            self.assertEqual(fewest, min(bin(teeth).count("1") for teeth in sets))
            elsewhere += where != channel
        self.assertGreater(elsewhere, 50)

    def test_each_line_is_set_or_told_loose_or_tight(self):
        chance = random.Random(14)
        told = {"set": 0, "loose": 0, "tight": 0}
        for again in range(400):
            case = some_case(chance)
            signs = [channel[0] for channel in case]
            line = ["".join(chance.choices(signs, k=chance.randint(1, 4))) for word in range(chance.randint(1, 4))]
            gaps = tuple(sorted(chance.randint(0, 20) for gap in range(3)))
            measure, body = chance.randint(10, 120), body_of(case, line)
            try:
                gap = Fraction(*full_gap(case, line, measure, gaps))
                self.assertEqual(body + (len(line) - 1) * gap, measure)
                self.assertTrue(len(line) == 1 or gaps[0] <= gap <= gaps[2])
                told["set"] += 1
            except Loose as error:
                self.assertEqual(body + (len(line) - 1) * gaps[2] + error.by, measure)
                self.assertGreater(error.by, 0)
                told["loose"] += 1
            except Tight as error:
                self.assertEqual(body + (len(line) - 1) * gaps[0] - error.by, measure)
                self.assertGreater(error.by, 0)
                told["tight"] += 1
        self.assertGreater(min(told.values()), 30, told)

    def test_a_wrong_bar_is_seen_in_the_slugs(self):
        # The b falls behind an a into the channel of a, and so comes to the last line in an a's place.
        case, keys = [("a", 5, 3, 2), ("b", 5, 1, 2)], "ab/ab/aa/"
        machine = Machine(case, keys, 1)
        machine.run()
        self.assertEqual(machine.slugs(), ["ab", "ab", "ab"])
        self.assertEqual(first_unlike(case, keys, machine.slugs()), (2, 1))

    def test_broken_teeth_are_seen_in_the_slugs(self):
        case = [("b", 5, 1, 2), ("a", 5, 3, 2)]
        for keys, slugs, unlike in (("ab/ab/bb/", ["ab", "ab", "ab"], (2, 0)), ("ab/ab/aa/", ["ab", "ab"], (2, 0))):
            self.plays(case, lines_of(case, keys), 1)
            # The first a falls among those of b: it is cast for one, or lacks for ever.
            machine = Machine(case, keys, 1, [(1, 2)])
            machine.run()
            self.assertEqual(machine.slugs(), slugs)
            self.assertEqual(first_unlike(case, keys, machine.slugs()), unlike)


if __name__ == "__main__":
    unittest.main()
