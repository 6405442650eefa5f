"""Points [22] to [24] and what [26] tells of waiting: machines of a few keys, tick by tick."""

import unittest

from linecaster.errors import CasterError, NoCase, NoKeys
from linecaster.machine import Machine

CASE = [("a", 10, 1, 2), ("n", 12, 2, 1)]
ONE = [("a", 10, 1, 1), ("n", 12, 2, 1)]
TWO = [("a", 10, 1, 2), ("n", 12, 2, 2)]
RIGHT = [("a", 10, 1, 1), ("n", 12, 2, 1), ("t", 7, 3, 1)]
# The teeth of b are all had by a, over which the bar leads first.
WRONG = [("a", 10, 3, 1), ("b", 10, 1, 1)]
A, N, T, B = ("a", 1), ("n", 2), ("t", 3), ("b", 1)


def state_of(machine):
    return (machine.channels(), machine.gathered(), machine.in_caster(), machine.bar(), machine.slugs())


def all_of(machine):
    truths = (machine.stuck(), machine.resting())
    return state_of(machine) + truths + (machine.waited(), machine.ticks())


class MachineTest(unittest.TestCase):
    def goes(self, machine, rows):
        """Holds each tick against its row: channels, line, caster, bar, lines cast."""
        for number, row in enumerate(rows, start=1):
            with self.subTest(number):
                self.assertFalse(machine.stuck())
                self.assertFalse(machine.resting())
                self.assertIs(machine.tick(), True)
                self.assertEqual(state_of(machine), row)
                self.assertEqual(machine.ticks(), number)

    def does_nothing(self, machine):
        before = all_of(machine)
        for again in range(3):
            self.assertIs(machine.tick(), False)
            self.assertEqual(all_of(machine), before)
            self.assertEqual(machine.run(), 0)
            self.assertEqual(all_of(machine), before)

    def comes_to_rest(self, machine, waited):
        self.assertIs(machine.resting(), True)
        self.assertIs(machine.stuck(), False)
        self.assertEqual(machine.waited(), waited)
        self.does_nothing(machine)

    def gets_stuck(self, machine, waited):
        self.assertIs(machine.stuck(), True)
        self.assertIs(machine.resting(), False)
        self.assertEqual(machine.waited(), waited)
        self.does_nothing(machine)


class TickByTick(MachineTest):
    def test_before_the_first_tick(self):
        machine = Machine(CASE, "an a/na/", 2)
        self.assertEqual(state_of(machine), ([[A, A], [N]], [], [], [], []))
        self.assertEqual((machine.ticks(), machine.waited()), (0, 0))

    def test_casting_time_one(self):
        machine = Machine(ONE, "a/a/", 1)
        self.goes(machine, [
            ([[], [N]], [A], [], [], []),
            ([[], [N]], [], [A], [], []),
            ([[], [N]], [], [], [A], ["a"]),
            ([[], [N]], [A], [], [], ["a"]),
            ([[], [N]], [], [A], [], ["a"]),
            ([[], [N]], [], [], [A], ["a", "a"]),
            ([[A], [N]], [], [], [], ["a", "a"]),
        ])
        self.comes_to_rest(machine, 1)

    def test_casting_time_two(self):
        machine = Machine(CASE, "an a/na/", 2)
        line = [A, N, " ", A]
        self.goes(machine, [
            ([[A], [N]], line[:1], [], [], []),
            ([[A], []], line[:2], [], [], []),
            ([[A], []], line[:3], [], [], []),
            ([[], []], line, [], [], []),
            ([[], []], [], line, [], []),
            ([[], []], [], line, [], []),
            ([[], []], [], [], [A, N, A], ["an a"]),
            ([[A], []], [], [], [N, A], ["an a"]),
            # n falls and is struck at the same tick.
            ([[A], []], [N], [], [A], ["an a"]),
            ([[A], []], [N, A], [], [], ["an a"]),
            ([[A], []], [], [N, A], [], ["an a"]),
            ([[A], []], [], [N, A], [], ["an a"]),
            ([[A], []], [], [], [N, A], ["an a", "na"]),
            ([[A], [N]], [], [], [A], ["an a", "na"]),
            ([[A, A], [N]], [], [], [], ["an a", "na"]),
        ])
        self.comes_to_rest(machine, 3)

    def test_casting_time_twenty(self):
        machine = Machine(CASE, "a/a/", 20)
        rows = [
            ([[A], [N]], [A], [], [], []),
            ([[A], [N]], [], [A], [], []),
            ([[], [N]], [A], [A], [], []),
        ]
        # From the fourth tick to the 21st the `/` waits for the caster.
        rows += [([[], [N]], [A], [A], [], [])] * 18
        rows += [([[], [N]], [], [A], [A], ["a"])]
        rows += [([[A], [N]], [], [A], [], ["a"])] * 19
        rows += [([[A], [N]], [], [], [A], ["a", "a"]), ([[A, A], [N]], [], [], [], ["a", "a"])]
        self.goes(machine, rows)
        self.assertEqual(machine.ticks(), 43)
        self.comes_to_rest(machine, 0)

    def test_no_keys(self):
        for casting in (1, 20):
            machine = Machine(CASE, "", casting)
            self.assertEqual(state_of(machine), ([[A, A], [N]], [], [], [], []))
            self.comes_to_rest(machine, 0)
            self.assertEqual(machine.ticks(), 0)

    def test_a_line_that_is_cast_makes_room_at_the_same_tick(self):
        machine = Machine(TWO, "a/n/", 2)
        self.goes(machine, [
            ([[A], [N, N]], [A], [], [], []),
            ([[A], [N, N]], [], [A], [], []),
            ([[A], [N]], [N], [A], [], []),
            ([[A], [N]], [], [N], [A], ["a"]),
            ([[A, A], [N]], [], [N], [], ["a"]),
            ([[A, A], [N]], [], [], [N], ["a", "n"]),
            ([[A, A], [N, N]], [], [], [], ["a", "n"]),
        ])
        self.comes_to_rest(machine, 0)

    def test_the_first_matrix_of_a_line_falls_at_the_next_tick(self):
        machine = Machine(ONE, "a/", 1)
        self.goes(machine, [
            ([[], [N]], [A], [], [], []),
            ([[], [N]], [], [A], [], []),
            ([[], [N]], [], [], [A], ["a"]),
            ([[A], [N]], [], [], [], ["a"]),
        ])
        self.comes_to_rest(machine, 0)

    def test_a_line_comes_to_the_end_of_the_bar(self):
        machine = Machine([("a", 10, 1, 3), ("n", 12, 2, 1)], "aaa/n/", 1)
        self.goes(machine, [
            ([[A, A], [N]], [A], [], [], []),
            ([[A], [N]], [A, A], [], [], []),
            ([[], [N]], [A, A, A], [], [], []),
            ([[], [N]], [], [A, A, A], [], []),
            ([[], []], [N], [], [A, A, A], ["aaa"]),
            ([[A], []], [], [N], [A, A], ["aaa"]),
            ([[A, A], []], [], [], [A, N], ["aaa", "n"]),
            ([[A, A, A], []], [], [], [N], ["aaa", "n"]),
            ([[A, A, A], [N]], [], [], [], ["aaa", "n"]),
        ])
        self.comes_to_rest(machine, 0)

    def test_wedges(self):
        machine = Machine(TWO, "a n a n/", 1)
        self.goes(machine, [
            ([[A], [N, N]], [A], [], [], []),
            ([[A], [N, N]], [A, " "], [], [], []),
            ([[A], [N]], [A, " ", N], [], [], []),
            ([[A], [N]], [A, " ", N, " "], [], [], []),
            ([[], [N]], [A, " ", N, " ", A], [], [], []),
            ([[], [N]], [A, " ", N, " ", A, " "], [], [], []),
            ([[], []], [A, " ", N, " ", A, " ", N], [], [], []),
            ([[], []], [], [A, " ", N, " ", A, " ", N], [], []),
            ([[], []], [], [], [A, N, A, N], ["a n a n"]),
            ([[A], []], [], [], [N, A, N], ["a n a n"]),
            ([[A], [N]], [], [], [A, N], ["a n a n"]),
            ([[A, A], [N]], [], [], [N], ["a n a n"]),
            ([[A, A], [N, N]], [], [], [], ["a n a n"]),
        ])
        self.comes_to_rest(machine, 0)

    def test_when_a_line_is_cast(self):
        for casting in list(range(1, 21)) + [21, 60]:
            machine = Machine(ONE, "a/", casting)
            for tick in range(1, casting + 2):
                machine.tick()
                self.assertEqual(machine.slugs(), [])
            machine.tick()
            self.assertEqual((machine.ticks(), machine.slugs(), machine.bar()), (casting + 2, ["a"], [A]))
            machine.tick()
            self.comes_to_rest(machine, 0)

    def test_as_many_matrices_as_there_may_be_and_more(self):
        for many in (40, 41, 100):
            machine = Machine([("a", 10, 1, many)], "a" * many + "/", 1)
            self.assertEqual(machine.run(), many + 2 + many)
            self.assertEqual(machine.channels(), [[A] * many])
            self.comes_to_rest(machine, 0)


class BrokenAndWrong(MachineTest):
    def test_none_broken(self):
        for machine in (
            Machine(RIGHT, "tan/", 1), Machine(RIGHT, "tan/", 1, None), Machine(RIGHT, "tan/", 1, []),
            Machine(RIGHT, "tan/", 1, broken=[]),
        ):
            self.assertEqual(machine.channels(), [[A], [N], [T]])
            machine.run()
            self.assertEqual(machine.slugs(), ["tan"])
            self.comes_to_rest(machine, 0)

    def test_a_broken_matrix_falls_elsewhere(self):
        machine = Machine(RIGHT, "t/a/a/", 1, [(2, 2)])
        broken = ("t", 1)
        self.assertEqual(machine.channels(), [[A], [N], [broken]])
        self.goes(machine, [
            ([[A], [N], []], [broken], [], [], []),
            ([[A], [N], []], [], [broken], [], []),
            ([[], [N], []], [A], [], [broken], ["t"]),
            ([[broken], [N], []], [], [A], [], ["t"]),
            ([[], [N], []], [broken], [], [A], ["t", "a"]),
            ([[A], [N], []], [], [broken], [], ["t", "a"]),
            ([[A], [N], []], [], [], [broken], ["t", "a", "t"]),
            ([[A, broken], [N], []], [], [], [], ["t", "a", "t"]),
        ])
        self.comes_to_rest(machine, 0)

    def test_a_broken_matrix_lies_behind_all_others(self):
        case = [("a", 10, 1, 3), ("t", 7, 3, 1)]
        machine = Machine(case, "t/aaaa/", 1, [(1, 2)])
        machine.run()
        self.assertEqual(machine.slugs(), ["t", "aaat"])
        self.assertEqual(machine.channels(), [[A, A, A, ("t", 1)], []])

    def test_several_broken_ones_in_their_order(self):
        case = [("x", 9, 0, 1), ("a", 10, 1, 1), ("n", 12, 2, 1), ("t", 7, 3, 3)]
        machine = Machine(case, "ttt/", 1, [(3, 2), (3, 3)])
        self.assertEqual(machine.channels()[3], [("t", 1), ("t", 0), T])
        machine.run()
        self.assertEqual(machine.channels(), [[("x", 0), ("t", 0)], [A, ("t", 1)], [N], [T]])
        self.assertEqual(machine.slugs(), ["ttt"])

    def test_a_broken_matrix_whose_channel_is_then_empty(self):
        machine = Machine(RIGHT, "t/t/", 1, [(2, 1)])
        self.goes(machine, [
            ([[A], [N], []], [("t", 2)], [], [], []),
            ([[A], [N], []], [], [("t", 2)], [], []),
            ([[A], [N], []], [], [], [("t", 2)], ["t"]),
            # It falls elsewhere, and the key waits once more: only then nothing will come.
            ([[A], [N, ("t", 2)], []], [], [], [], ["t"]),
        ])
        self.gets_stuck(machine, 2)

    def test_wrong_codes(self):
        whole = ("a", 3)
        machine = Machine(WRONG, "b/a/a/", 1)
        self.goes(machine, [
            ([[whole], []], [B], [], [], []),
            ([[whole], []], [], [B], [], []),
            ([[], []], [whole], [], [B], ["b"]),
            ([[B], []], [], [whole], [], ["b"]),
            ([[], []], [B], [], [whole], ["b", "a"]),
            ([[whole], []], [], [B], [], ["b", "a"]),
            ([[whole], []], [], [], [B], ["b", "a", "b"]),
            ([[whole, B], []], [], [], [], ["b", "a", "b"]),
        ])
        self.comes_to_rest(machine, 0)

    def test_wrong_codes_that_leave_a_channel_empty(self):
        machine = Machine(WRONG, "b/b/", 1)
        self.assertEqual(machine.run(), 4)
        self.assertEqual(state_of(machine), ([[("a", 3), B], []], [], [], [], ["b"]))
        self.gets_stuck(machine, 2)

    def test_wrong_codes_can_serve_a_line_that_wants_more(self):
        machine = Machine(WRONG, "b/aa/", 1)
        machine.run()
        self.assertEqual(machine.slugs(), ["b", "ab"])
        self.comes_to_rest(machine, 0)


class Refusals(MachineTest):
    def refused(self, error, at, case, keys, casting, broken=None):
        before = (list(case), list(broken or []))
        with self.assertRaises(error) as caught:
            Machine(case, keys, casting, broken)
        self.assertEqual(caught.exception.at, at)
        self.assertIsInstance(caught.exception, CasterError)
        self.assertEqual((case, broken or []), before)

    def test_keys_that_are_not_good(self):
        for keys, at in (("x/", 0), ("a", 1), ("a  n/", 2), ("a//", 2), ("/", 0), (" ", 0), ("an/A/", 3), ("a/n ", 4)):
            self.refused(NoKeys, at, CASE, keys, 2)

    def test_broken_ones_that_are_none(self):
        for broken, at in (
            ([(0, 0)], 0), ([(0, 2)], 0), ([(2, 1)], 0), ([(-1, 2)], 0), ([(1, 2), (1, 2)], 1),
            ([(0, 1), (0, 1), (0, 1)], 2), ([(0, 1), (9, 1), (0, 0)], 1),
        ):
            self.refused(NoCase, at, CASE, "a/", 2, broken)
        self.refused(NoCase, 0, [("a", 10, 1, 0)], "a/", 2, [(0, 1)])

    def test_keys_are_looked_at_first(self):
        self.refused(NoKeys, 1, CASE, "a", 2, [(0, 0)])
        self.refused(NoKeys, 2, CASE, "a//", 2, [(9, 9)])


class RestAndStuck(MachineTest):
    def test_stuck_at_once(self):
        machine = Machine([("a", 10, 1, 0)], "a/", 1)
        self.gets_stuck(machine, 0)
        self.assertEqual(machine.ticks(), 0)

    def test_stuck_within_a_line(self):
        machine = Machine(ONE, "naa/", 5)
        self.goes(machine, [([[A], []], [N], [], [], []), ([[], []], [N, A], [], [], [])])
        self.gets_stuck(machine, 0)

    def test_stuck_behind_other_lines(self):
        machine = Machine(ONE, "a/aa/n/", 1)
        self.goes(machine, [
            ([[], [N]], [A], [], [], []),
            ([[], [N]], [], [A], [], []),
            ([[], [N]], [], [], [A], ["a"]),
            ([[], [N]], [A], [], [], ["a"]),
        ])
        self.gets_stuck(machine, 1)

    def test_a_line_in_the_caster_or_a_matrix_on_the_bar_is_waited_for(self):
        machine = Machine(ONE, "a/a/", 2)
        machine.tick()
        machine.tick()
        self.assertEqual((machine.channels()[0], machine.in_caster(), machine.stuck()), ([], [A], False))
        machine.tick()
        machine.tick()
        self.assertEqual((machine.channels()[0], machine.bar(), machine.stuck()), ([], [A], False))

    def test_an_empty_channel_of_another_key(self):
        machine = Machine(ONE, "an/", 2)
        machine.tick()
        self.assertEqual((machine.channels()[0], machine.stuck()), ([], False))

    def test_a_blank_and_a_sent_line_are_never_stuck(self):
        machine = Machine(ONE, "a n/", 2)
        for again in range(4):
            self.assertIs(machine.tick(), True)
            self.assertEqual((machine.stuck(), machine.resting()), (False, False))

    def test_not_at_rest_while_anything_is_about(self):
        machine = Machine(ONE, "a/", 2)
        for place in ("keys", "gathered", "caster", "caster", "bar"):
            self.assertIs(machine.resting(), False, place)
            self.assertIs(machine.tick(), True, place)
        self.assertIs(machine.resting(), True)

    def test_run_tells_how_many(self):
        machine = Machine(CASE, "an a/na/", 2)
        self.assertEqual(machine.run(), 15)
        self.assertEqual((machine.run(), machine.ticks()), (0, 15))

    def test_run_behind_some_ticks(self):
        for some in range(16):
            machine = Machine(CASE, "an a/na/", 2)
            for again in range(some):
                machine.tick()
            self.assertEqual(machine.run(), 15 - some)
            self.assertEqual((machine.run(), machine.ticks()), (0, 15))

    def test_run_of_a_machine_that_gets_stuck(self):
        machine = Machine(ONE, "a/aa/n/", 1)
        self.assertEqual((machine.run(), machine.run(), machine.ticks()), (4, 0, 4))
        self.assertIs(machine.stuck(), True)

    def test_run_of_no_keys(self):
        machine = Machine(CASE, "", 1)
        self.assertEqual((machine.run(), machine.ticks()), (0, 0))


class Waiting(MachineTest):
    def waits(self, machine):
        """The ticks, by their number, at which a key waited."""
        told, before = [], machine.waited()
        while machine.tick():
            self.assertIn(machine.waited() - before, (0, 1))
            if machine.waited() > before:
                told.append(machine.ticks())
            before = machine.waited()
        return told

    def test_none(self):
        machine = Machine(TWO, "an/an/", 1)
        self.assertEqual((self.waits(machine), machine.waited()), ([], 0))

    def test_at_several_ticks(self):
        self.assertEqual(self.waits(Machine(CASE, "an a/na/", 2)), [6, 7, 8])
        self.assertEqual(self.waits(Machine(ONE, "a/a/", 20)), list(range(3, 23)))

    def test_of_several_keys(self):
        self.assertEqual(self.waits(Machine(ONE, "na/an/", 1)), [4, 5])
        self.assertEqual(self.waits(Machine(ONE, "a/a/a/", 1)), [3, 6])

    def test_a_key_that_is_struck_as_its_matrix_falls_waits_no_more(self):
        machine = Machine(ONE, "a/a/", 1)
        self.assertEqual(self.waits(machine), [3])
        self.assertEqual(machine.waited(), 1)

    def test_a_line_that_waits_for_the_caster(self):
        machine = Machine(TWO, "a/n/", 20)
        machine.run()
        self.assertEqual((machine.waited(), machine.slugs()), (0, ["a", "n"]))

    def test_stuck(self):
        machine = Machine(ONE, "an/aa/", 1)
        # While n is on the bar the machine is not stuck yet, and the second a waits.
        self.assertEqual(self.waits(machine), [4, 6])
        self.gets_stuck(machine, 2)
        machine = Machine(ONE, "aa/", 1)
        self.assertEqual(self.waits(machine), [])
        self.gets_stuck(machine, 0)


class TheAskersOwn(MachineTest):
    def test_what_is_told(self):
        machine = Machine(CASE, "an a/na/", 2)
        told = (machine.channels, machine.gathered, machine.in_caster, machine.bar, machine.slugs)
        while machine.tick():
            before = all_of(machine)
            for channel in machine.channels():
                channel.append(("x", 1))
                channel.pop(0)
            for ask in told:
                ask().append("more")
                ask().clear()
            self.assertEqual(all_of(machine), before)
        self.assertEqual(machine.slugs(), ["an a", "na"])

    def test_what_was_told_stays_as_it_was(self):
        machine = Machine(CASE, "an a/na/", 2)
        kept, rows = [], []
        while machine.tick():
            kept.append(state_of(machine))
            rows.append(repr(kept[-1]))
        self.assertEqual([repr(state) for state in kept], rows)

    def test_asking_changes_nothing(self):
        asked, other = Machine(CASE, "an a/na/", 2), Machine(CASE, "an a/na/", 2)
        while asked.tick():
            other.tick()
            self.assertEqual(all_of(asked), all_of(asked))
        self.assertEqual(all_of(asked), all_of(other))
        self.assertIs(other.tick(), False)

    def test_what_is_handed_in_stays(self):
        case, broken = list(RIGHT), [(2, 2)]
        machine = Machine(case, "t/a/a/", 1, broken)
        machine.run()
        self.assertEqual((case, broken), (RIGHT, [(2, 2)]))

    def test_what_becomes_of_what_was_handed_in(self):
        case, broken = list(RIGHT), [(2, 2)]
        machine = Machine(case, "t/a/a/", 1, broken)
        case.reverse()
        broken.append((9, 9))
        machine.tick()
        case.clear()
        broken.clear()
        machine.run()
        self.assertEqual(machine.slugs(), ["t", "a", "t"])
        self.assertEqual(machine.channels(), [[A, ("t", 1)], [N], []])

    def test_two_machines_of_the_same_case_and_keys(self):
        case, broken = list(RIGHT), [(2, 2)]
        first, second = Machine(case, "t/a/a/", 1, broken), Machine(case, "t/a/a/", 1, broken)
        before = all_of(second)
        first.run()
        self.assertEqual(all_of(second), before)
        ended = all_of(first)
        second.run()
        self.assertEqual(all_of(second), ended)
        self.assertEqual(all_of(first), ended)
        self.assertEqual(all_of(Machine(case, "t/a/a/", 1, broken)), before)

    def test_kinds(self):
        machine = Machine(CASE, "a n/", 2)
        while True:
            for told in (machine.stuck(), machine.resting()):
                self.assertIs(type(told), bool)
            for told in (machine.ticks(), machine.waited()):
                self.assertIs(type(told), int)
            for told in state_of(machine):
                self.assertIs(type(told), list)
            for text in machine.slugs():
                self.assertIs(type(text), str)
            if not machine.tick():
                break
        self.assertIs(type(machine.run()), int)


if __name__ == "__main__":
    unittest.main()
