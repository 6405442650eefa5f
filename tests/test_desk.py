"""Point [31] and the rows of the interface: what a desk answers, refuses and keeps."""

import unittest

from linecaster.casetexts import shown_case
from linecaster.desk import Desk
from linecaster.errors import CasterError, NoBreak, NoCase, NoCopy, NoNumber, NoRow, NoText, TooMany

CASE = [("a", 10, 1, 5), ("n", 12, 2, 4), ("t", 7, 3, 4)]
TEXT = "a 10 0000001 5\nn 12 0000010 4\nt 7 0000011 4"
# Of each sign one: enough for these lines, if the keys wait.
ONE = "a 10 0000001 1\nn 12 0000010 1\nt 7 0000011 1"

# The full line has two gaps of 7/2; the last one is set with gaps of ideal.
COPY = "copy measure 75 gaps 2 4 8 set an ant at tat a end"
LINES = ["an ant at", "tat a"]
GAPS = ["7/2", "4"]
KEYS = "an ant at/tat a/"

PLAIN_ROWS = ("lines", "gaps", "keys", "need", "start", "run", "slugs", "state", "waited")
ASKING_ROWS = ("lines", "gaps", "keys", "need", "slugs", "state", "waited")


def told_of(desk):
    return [desk.say(row) for row in ASKING_ROWS]


def said(text, casting, rows):
    """The answer to the last one of the rows."""
    desk = Desk(text, casting)
    return [desk.say(row) for row in rows][-1]


class DeskTest(unittest.TestCase):
    def refused(self, desk, row, error):
        with self.subTest(row=row):
            before = told_of(desk)
            with self.assertRaises(error) as caught:
                desk.say(row)
            self.assertIs(type(caught.exception), error)
            self.assertIsInstance(caught.exception, CasterError)
            self.assertEqual(told_of(desk), before)
            return caught.exception

    def answers(self, desk, rows):
        for row, told in rows:
            with self.subTest(row=row):
                answer = desk.say(row)
                self.assertEqual(answer, told)
                self.assertIs(type(answer), list)
                self.assertEqual([type(text) for text in answer], [str] * len(told))


class Making(DeskTest):
    def not_made(self, text, casting, error):
        with self.subTest(text=text, casting=casting):
            with self.assertRaises(error) as caught:
                Desk(text, casting)
            self.assertIs(type(caught.exception), error)
            return caught.exception

    def test_casting_times(self):
        for casting in (1, 2, 19, 20):
            # One key, one for the `/`, the casting time, and one fall.
            self.assertEqual(said(TEXT, casting, ["copy set a end", "start", "run"]), [str(3 + casting)])
        for casting in (0, 21, -1, -20, 100, 10 ** 50):
            self.not_made(TEXT, casting, NoNumber)

    def test_texts_that_are_refused(self):
        for casting in (1, 20, 0, 21):
            for text in ("", "a 10 0000001", TEXT + "\n", "a 10 1 5", "a 010 0000001 5", " " + TEXT):
                self.not_made(text, casting, NoText)
            for text, at in (("a 0 0000001 5", 0), ("a 10 0000001 41", 0), (TEXT + "\na 1 1111111 1", 3)):
                self.assertEqual(self.not_made(text, casting, NoCase).at, at)

    def test_the_form_of_the_text_ahead_of_the_case(self):
        self.not_made("a 0 0000001 5\na 10", 0, NoText)

    def test_by_the_names_of_the_interface(self):
        desk = Desk(case_text=TEXT, casting=2)
        self.assertEqual(desk.say(row="state"), ["rest"])

    def test_a_case_whose_bar_is_wrong_is_no_refusal(self):
        wrong = "a 10 0000011 1\nb 10 0000001 1"
        rows = ["copy measure 10 set b a a end", "start", "run", "slugs"]
        # The b falls into the channel of a, behind the a that lies there.
        self.assertEqual(said(wrong, 1, rows), ["b", "a", "b"])


class AtFirst(DeskTest):
    def test_each_row(self):
        self.answers(Desk(TEXT, 2), (
            ("lines", []), ("gaps", []), ("keys", [""]), ("need", ["0 0 0"]), ("slugs", []), ("state", ["rest"]),
            ("waited", ["0"]), ("run", ["0"]), ("tick 0", ["0"]), ("tick 5", ["0"]), ("start", []), ("state", ["rest"]),
            ("run", ["0"]), ("slugs", []), ("lines", []),
        ))

    def test_the_need_of_one_channel(self):
        self.assertEqual(Desk("a 10 0000001 5", 1).say("need"), ["0"])


class Copy(DeskTest):
    def test_each_row(self):
        desk = Desk(TEXT, 2)
        self.answers(desk, (
            (COPY, ["2"]), ("lines", LINES), ("gaps", GAPS), ("keys", [KEYS]), ("need", ["4 2 4"]),
            # The machine is still the one of no keys.
            ("slugs", []), ("state", ["rest"]), ("waited", ["0"]), ("run", ["0"]), ("tick 9", ["0"]),
        ))

    def test_copy_without_a_set(self):
        desk = Desk(TEXT, 2)
        for row in ("copy measure 75", "copy gaps 0 0 0", "copy 3 times ( measure 9 )"):
            self.answers(desk, (
                (COPY, ["2"]), (row, ["0"]), ("lines", []), ("gaps", []), ("keys", [""]), ("need", ["0 0 0"]),
                ("start", []), ("state", ["rest"]), ("run", ["0"]),
            ))

    def test_other_copy_takes_the_place_of_the_copy_ahead(self):
        self.answers(Desk(TEXT, 2), (
            (COPY, ["2"]), ("copy set tan end", ["1"]), ("lines", ["tan"]), ("gaps", ["4"]), ("keys", ["tan/"]),
            ("need", ["1 1 1"]), (COPY, ["2"]), ("lines", LINES), ("gaps", GAPS), ("keys", [KEYS]),
        ))

    def test_measure_and_gaps_do_not_hold_from_copy_to_copy(self):
        self.answers(Desk(TEXT, 2), (
            ("copy measure 22 gaps 0 0 0 set an an end", ["2"]), ("gaps", ["0", "0"]),
            # By the measure and the gaps that hold at first both words stand in one line.
            ("copy set an an end", ["1"]), ("gaps", ["4"]),
        ))

    def test_several_paragraphs(self):
        row = "copy measure 75 2 times ( set an ant at tat a end measure 50 gaps 0 3 9 ) set tan end"
        # The second time the measure is 50: no line that begins with `an` can be set to it.
        desk = Desk(TEXT, 2)
        self.assertEqual(self.refused(desk, row, NoBreak).words, 0)
        row = "copy measure 75 2 times ( set an ant at tat a end gaps 0 3 9 ) measure 29 set tan tan end"
        self.answers(desk, (
            (row, ["6"]), ("lines", LINES + LINES + ["tan", "tan"]), ("gaps", GAPS + ["7/2", "3", "0", "3"]),
            ("keys", [KEYS + KEYS + "tan/tan/"]),
        ))

    def test_gaps(self):
        for row, gaps in (
            # A full line of one word, and one word alone as a last line.
            ("copy measure 29 set tan tan end", ["0", "4"]),
            ("copy measure 30 gaps 0 9 9 set tan end", ["9"]),
            ("copy measure 30 gaps 0 0 9 set tan end", ["0"]),
            # Whole numbers, halves, thirds, and quarters in lowest terms.
            ("copy measure 24 set a a tat tat end", ["4", "0", "4"]),
            ("copy measure 21 gaps 1 1 9 set a a t t end", ["1", "1"]),
            ("copy measure 37 gaps 1 3 9 set a a a tan end", ["7/2", "3"]),
            ("copy measure 47 gaps 1 3 9 set a a a a tan end", ["7/3", "3"]),
            ("copy measure 54 gaps 1 3 9 set a a a a a tan end", ["14/3", "3"]),
            ("copy measure 56 gaps 1 3 9 set a a a a a tan end", ["3/2", "3"]),
            # A last line that is too long by gaps of ideal.
            ("copy measure 33 gaps 1 3 9 set a a a end", ["3/2"]),
            ("copy measure 32 gaps 1 3 9 set a a a end", ["1"]),
            ("copy measure 29 gaps 0 3 9 set a a t end", ["1"]),
            ("copy measure 36 gaps 1 3 9 set a a a end", ["3"]),
        ):
            with self.subTest(row):
                self.assertEqual(said(TEXT, 1, [row, "gaps"]), gaps)

    def test_the_number_of_lines(self):
        for many in (1, 9):
            self.assertEqual(said(TEXT, 1, [f"copy measure 10 {many} times ( set a end )"]), [str(many)])
        self.assertEqual(said(TEXT, 1, ["copy measure 10 6 times ( 6 times ( set a end ) )"]), ["36"])
        words = " ".join(["a"] * 60)
        self.assertEqual(said(TEXT, 1, [f"copy measure 10 6 times ( set {words} end )"]), ["360"])

    def test_copy_that_is_refused_leaves_the_copy_ahead(self):
        for ahead in ([], [COPY], [COPY, "start"], [COPY, "start", "tick 9"], [COPY, "start", "run"]):
            desk = Desk(TEXT, 2)
            for row in ahead:
                desk.say(row)
            for row in ("copy x", "copy set a", "copy set end", "copy measure 0", "copy measure 2001", "copy tan",
                        "copy set an end end", "copy 0 times ( set a end )", "copy set A end", "copy copy set a end",
                        "copy measure 075", "copy gaps 4 2 8", "copy ( set a end )", "copy set a end\n", "copy \n"):
                self.refused(desk, row, NoCopy)
            self.refused(desk, "copy 9 times ( 9 times ( set a end ) )", TooMany)
            self.refused(desk, "copy 9 times ( set " + " ".join(["a"] * 45) + " end )", TooMany)
            for row in ("copy set b end", "copy set an be end", "copy set a.n end", "copy set an end set ten end"):
                self.refused(desk, row, NoText)
            for row, words in (("copy measure 5 set a end", 0), ("copy measure 10 set a a an end", 2),
                               ("copy set an end measure 29 set tan tan tana end", 2)):
                self.assertEqual(self.refused(desk, row, NoBreak).words, words)

    def test_what_is_refused_comes_in_its_order(self):
        desk = Desk(TEXT, 2)
        many = "9 times ( 9 times ( set a end ) )"
        self.refused(desk, f"copy measure 5 set a b end {many} x", NoCopy)
        self.refused(desk, f"copy x {many}", NoCopy)
        self.refused(desk, f"copy measure 5 set a b end {many}", TooMany)
        self.refused(desk, f"copy set b end {many}", TooMany)
        # In one paragraph a word that can't be set is told ahead of breaks, wherever it stands.
        self.refused(desk, "copy measure 5 set a b end", NoText)
        self.refused(desk, "copy measure 5 set b a end", NoText)
        # Paragraph by paragraph.
        self.assertEqual(self.refused(desk, "copy measure 5 set a end set b end", NoBreak).words, 0)
        self.refused(desk, "copy measure 10 set b end measure 5 set a end", NoText)
        self.assertEqual(self.refused(desk, "copy measure 10 set a end set a an end set b end", NoBreak).words, 1)

    def test_the_need_hangs_on_the_casting_time_and_not_on_the_matrices(self):
        for text in (TEXT, ONE):
            for casting, need in ((1, "3 2 4"), (2, "4 2 4"), (20, "5 2 4")):
                self.assertEqual(said(text, casting, [COPY, "need"]), [need])


class Machines(DeskTest):
    def test_each_row(self):
        self.answers(Desk(TEXT, 2), (
            (COPY, ["2"]), ("start", []), ("state", ["going"]), ("slugs", []), ("waited", ["0"]),
            ("tick 0", ["0"]), ("state", ["going"]), ("tick 10", ["10"]), ("slugs", []), ("tick 2", ["2"]),
            # The first line is sent at tick 10 and cast at tick 12.
            ("slugs", LINES[:1]), ("state", ["going"]), ("lines", LINES), ("gaps", GAPS), ("keys", [KEYS]),
            ("need", ["4 2 4"]), ("run", ["11"]), ("slugs", LINES), ("state", ["rest"]), ("waited", ["0"]),
            ("run", ["0"]), ("tick 7", ["0"]), ("slugs", LINES), ("state", ["rest"]),
        ))

    def test_start_begins_anew(self):
        self.answers(Desk(TEXT, 2), (
            (COPY, ["2"]), ("start", []), ("tick 12", ["12"]), ("slugs", LINES[:1]), ("start", []), ("slugs", []),
            ("state", ["going"]), ("run", ["23"]), ("slugs", LINES), ("start", []), ("slugs", []), ("run", ["23"]),
        ))

    def test_other_copy_leaves_the_machine_till_start(self):
        self.answers(Desk(TEXT, 2), (
            (COPY, ["2"]), ("start", []), ("tick 12", ["12"]), ("copy set tan end", ["1"]), ("state", ["going"]),
            ("slugs", LINES[:1]), ("run", ["11"]), ("slugs", LINES), ("keys", ["tan/"]), ("start", []), ("slugs", []),
            ("run", ["9"]), ("slugs", ["tan"]),
        ))

    def test_waiting(self):
        desk = Desk("a 10 0000001 1\nn 12 0000010 1", 1)
        self.answers(desk, (
            ("copy measure 22 set an an end", ["2"]), ("start", []), ("waited", ["0"]), ("tick 3", ["3"]),
            # The first line is cast at tick 4, and its a falls at tick 5, at which the next one is struck.
            ("waited", ["0"]), ("tick 1", ["1"]), ("waited", ["1"]), ("run", ["6"]), ("waited", ["1"]),
            ("slugs", ["an", "an"]), ("state", ["rest"]), ("start", []), ("waited", ["0"]),
        ))

    def test_stuck(self):
        desk = Desk("a 10 0000001 1\nn 12 0000010 2", 1)
        self.answers(desk, (
            ("copy set an end set ana end set n end", ["3"]), ("start", []), ("run", ["6"]), ("state", ["stuck"]),
            ("slugs", ["an"]), ("waited", ["1"]), ("run", ["0"]), ("tick 5", ["0"]), ("state", ["stuck"]),
            ("copy set an end", ["1"]), ("state", ["stuck"]), ("start", []), ("state", ["going"]), ("run", ["6"]),
            ("state", ["rest"]), ("slugs", ["an"]),
        ))

    def test_stuck_at_once(self):
        self.answers(Desk("a 10 0000001 0", 1), (
            ("copy set a end", ["1"]), ("need", ["1"]), ("start", []), ("state", ["stuck"]), ("run", ["0"]),
            ("tick 1", ["0"]), ("waited", ["0"]), ("slugs", []),
        ))

    def test_ticks_beyond_the_end(self):
        for row, told in (("tick 22", "22"), ("tick 23", "23"), ("tick 24", "23"), ("tick 9999", "23")):
            self.assertEqual(said(TEXT, 2, [COPY, "start", row]), [told])
        self.assertEqual(said(TEXT, 2, [COPY, "start", "tick 22", "state"]), ["going"])
        self.assertEqual(said(TEXT, 2, [COPY, "start", "tick 23", "state"]), ["rest"])
        self.assertEqual(said(TEXT, 2, [COPY, "start", "tick 22", "tick 9999"]), ["1"])

    def test_as_many_ticks_as_told(self):
        words = " ".join(["a"] * 60)
        desk = Desk("a 10 0000001 1", 20)
        # Each line's a falls, and is struck again, 22 ticks behind its key: 360 times, and the tick of the first key.
        self.answers(desk, (
            (f"copy measure 10 6 times ( set {words} end )", ["360"]), ("start", []), ("tick 9", ["9"]),
            ("tick 1000", ["1000"]), ("state", ["going"]), ("start", []), ("tick 9999", ["7921"]), ("start", []),
            ("run", ["7921"]),
        ))

    def test_ticks_one_by_one_come_to_the_run(self):
        desk = Desk(ONE, 3)
        desk.say("copy measure 29 set tan ant nat end")
        desk.say("start")
        many = desk.say("run")
        self.assertEqual(desk.say("slugs"), ["tan", "ant", "nat"])
        waited = desk.say("waited")
        desk.say("start")
        count = 0
        while desk.say("tick 1") == ["1"]:
            count += 1
        self.assertEqual([str(count)], many)
        self.assertEqual((desk.say("waited"), desk.say("state")), (waited, ["rest"]))


class Rows(DeskTest):
    def desks(self):
        for ahead in ([], [COPY], [COPY, "start", "tick 11"]):
            desk = Desk(TEXT, 2)
            for row in ahead:
                desk.say(row)
            yield desk

    def test_words_without_signs(self):
        rows = ["", " ", "  ", "copy ", " copy", "tick ", "tick  1", " tick 1", "tick 1 ", "copy  set a end",
                "copy set  a end", "copy set a end ", " copy set a end", "tick  x", "copy  x", "copy x ", "\n ", " x"]
        rows += [row + " " for row in PLAIN_ROWS] + [" " + row for row in PLAIN_ROWS]
        for desk in self.desks():
            for row in rows:
                self.refused(desk, row, NoRow)

    def test_another_first_word(self):
        rows = ["x", "set a end", "measure 75", "Lines", "LINES", "line", "liness", "lines\n", "\nlines", "lines\t",
                "tick\t1", "ticks", "Tick 1", "ticks 1", "say", "waits", "peaks", "rest", "stuck", "going", "none",
                "0", "copy\n", "copy\nset a end", "lines/", "st", "startrun", "end", "case", "casting", "machine"]
        for desk in self.desks():
            for row in rows:
                self.refused(desk, row, NoRow)

    def test_too_few_words(self):
        for desk in self.desks():
            self.refused(desk, "copy", NoRow)
            self.refused(desk, "tick", NoRow)

    def test_too_many_words(self):
        for desk in self.desks():
            for row in PLAIN_ROWS:
                for more in ("x", "1", row, "set a end"):
                    self.refused(desk, f"{row} {more}", NoRow)
            for row in ("tick 1 1", "tick x 1", "tick 1 x", "tick 10000 1", "tick tick 1"):
                self.refused(desk, row, NoRow)

    def test_numbers(self):
        for desk in self.desks():
            for word in ("10000", "99999", "01", "00", "-1", "+1", "x", "1x", "1.0", "1_0", "-0", "1\n", "\t1", "0x1",
                         "one", "010", "1e1", "00001", "tick", "'"):
                self.refused(desk, f"tick {word}", NoNumber)

    def test_numbers_of_one_to_four_figures(self):
        for word in ("0", "1", "9", "10", "99", "100", "999", "1000", "9999"):
            told = str(min(int(word), 23))
            self.assertEqual(said(TEXT, 2, [COPY, "start", f"tick {word}"]), [told])


class Keeping(DeskTest):
    def test_the_lists_are_the_askers_own(self):
        desk = Desk(TEXT, 2)
        for row in (COPY, "start", "tick 12"):
            answer = desk.say(row)
            answer.append("x")
        for row in ASKING_ROWS:
            answer = desk.say(row)
            before = list(answer)
            answer.append("x")
            answer[0] = "y"
            self.assertEqual(desk.say(row), before)

    def test_what_was_told_stays(self):
        desk = Desk(TEXT, 2)
        desk.say(COPY)
        desk.say("start")
        desk.say("tick 12")
        told = [(desk.say(row), desk.say(row)) for row in ASKING_ROWS]
        for row in ("run", "copy set tan end", "start", "run"):
            desk.say(row)
        for answer, before in told:
            self.assertEqual(answer, before)

    def test_asking_changes_nothing(self):
        desk = Desk(ONE, 2)
        for row in (COPY, "copy measure 29 set tan ant nat end", "start", "tick 8"):
            desk.say(row)
        before = told_of(desk)
        for row in ASKING_ROWS + ("tick 0",):
            desk.say(row)
            self.assertEqual(told_of(desk), before)

    def test_what_is_refused_leaves_the_machine_at_its_tick(self):
        wrong = (("copy x", NoCopy), ("copy set b end", NoText), ("copy measure 5 set a end", NoBreak),
                 ("tick 01", NoNumber), ("tick 10000", NoNumber), ("tick 1 1", NoRow), ("start anew", NoRow),
                 ("run 1", NoRow), ("run ", NoRow))
        for ticks in range(24):
            desk = Desk(TEXT, 2)
            for row in (COPY, "start", f"tick {ticks}"):
                desk.say(row)
            for row, error in wrong:
                self.refused(desk, row, error)
            self.assertEqual(desk.say("run"), [str(23 - ticks)])
            self.assertEqual(desk.say("slugs"), LINES)

    def test_two_desks_keep_apart(self):
        one, other = Desk(TEXT, 2), Desk(TEXT, 2)
        for row in (COPY, "start", "run"):
            one.say(row)
        self.assertEqual(told_of(other), told_of(Desk(TEXT, 2)))

    def test_the_case_stays_as_it_was(self):
        desk = Desk(shown_case(CASE), 2)
        for again in range(3):
            self.answers(desk, ((COPY, ["2"]), ("start", []), ("run", ["23"]), ("slugs", LINES)))


if __name__ == "__main__":
    unittest.main()
