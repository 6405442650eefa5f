"""Point [19]: copy that is read to jobs, and jobs that are written."""

import copy
import itertools
import re
import unittest

from linecaster.cases import SIGNS
from linecaster.copies import read_copy, shown_copy
from linecaster.errors import NoCopy

M = ("measure", 7)
S = ("set", ["a"])

PAIRS = (
    ("", []),
    ("measure 100", [("measure", 100)]),
    ("gaps 2 4 8", [("gaps", 2, 4, 8)]),
    ("set a end", [("set", ["a"])]),
    ("set the line is cast. end", [("set", ["the", "line", "is", "cast."])]),
    ("3 times ( measure 7 )", [("times", 3, [M])]),
    ("measure 7 measure 7", [M, M]),
    ("gaps 0 0 0 gaps 99 99 99", [("gaps", 0, 0, 0), ("gaps", 99, 99, 99)]),
    ("set a end set b end", [S, ("set", ["b"])]),
    ("2 times ( set a end ) 3 times ( measure 7 )", [("times", 2, [S]), ("times", 3, [M])]),
    (
        "measure 80 gaps 1 2 3 set one two end 2 times ( measure 7 set a end ) measure 7",
        [("measure", 80), ("gaps", 1, 2, 3), ("set", ["one", "two"]), ("times", 2, [M, S]), M],
    ),
    (
        "1 times ( 2 times ( measure 7 ) set a end 3 times ( set a end ) )",
        [("times", 1, [("times", 2, [M]), S, ("times", 3, [S])])],
    ),
)


def nested_text(deep, inner="set a end"):
    return "2 times ( " * deep + inner + " )" * deep


def nested_jobs(deep):
    jobs = [S]
    for bracket in range(deep):
        jobs = [("times", 2, jobs)]
    return jobs


def lists_in(jobs):
    found = [jobs]
    for job in jobs:
        if job[0] == "set":
            found.append(job[1])
        if job[0] == "times":
            found.extend(lists_in(job[2]))
    return found


def copy_pattern(deep):
    number = r"(?:0|[1-9][0-9]{0,3})"
    word = r"(?!end )[a-z.,'\-]+"
    job = rf"measure {number}|gaps {number} {number} {number}|set(?: {word})+ end"
    if deep > 0:
        job += rf"|[1-9] times \( {copy_pattern(deep - 1)} \)"
    return rf"(?:{job})(?: (?:{job}))*"


PATTERN = re.compile(rf"(?:{copy_pattern(4)})?")


def is_copy(text):
    """Another way to see whether a text is copy than to read it."""
    if PATTERN.fullmatch(text) is None:
        return False
    # No set has a figure, so numbers stand behind those words outside of sets alone.
    measures = [int(number) for number in re.findall(r"measure (\d+)", text)]
    gaps = [[int(number) for number in three] for three in re.findall(r"gaps (\d+) (\d+) (\d+)", text)]
    rising = all(three == sorted(three) and three[2] <= 99 for three in gaps)
    return rising and all(1 <= measure <= 2000 for measure in measures)


class CopyTest(unittest.TestCase):
    def told(self, text, expected):
        jobs = read_copy(text)
        self.assertEqual(jobs, expected)
        for part in lists_in(jobs):
            self.assertIs(type(part), list)
        self.assertEqual(shown_copy(jobs), text)
        self.assertEqual(jobs, expected)

    def refused(self, text):
        with self.subTest(text):
            with self.assertRaises(NoCopy):
                read_copy(text)


class Reading(CopyTest):
    def test_ordinary(self):
        for text, jobs in PAIRS:
            with self.subTest(text):
                self.told(text, jobs)

    def test_the_kinds(self):
        jobs = read_copy("measure 7 gaps 1 2 3 set a end 2 times ( measure 1 )")
        self.assertEqual([type(job) for job in jobs], [tuple] * 4)
        self.assertEqual([type(part) for part in jobs[0]], [str, int])
        self.assertEqual([type(part) for part in jobs[1]], [str, int, int, int])
        self.assertEqual([type(part) for part in jobs[2]], [str, list])
        self.assertEqual([type(part) for part in jobs[3]], [str, int, list])
        self.assertEqual([type(job) for job in jobs[3][2]], [tuple])

    def test_a_long_text(self):
        self.told("measure 7 " * 800 + "measure 7", [M] * 801)
        self.told("set " + "a " * 4000 + "end", [("set", ["a"] * 4000)])
        self.told("set " + "z" * 8000 + " end", [("set", ["z" * 8000])])

    def test_any_other_text(self):
        for text in (
            "a", "x y z", "measures 7", "Measure 7", "MEASURE 7", "end", "(", ")", "( )", "times", "7", "0",
            "-", "gap 1 2 3", "jobs", "set", "measure", "gaps", "1 2", "/", "measure 7;", "lines",
            "measure\t7",
        ):
            self.refused(text)
            self.refused("measure 7 " + text)
            self.refused(text + " measure 7")


class Blanks(CopyTest):
    def test_blanks_too_many(self):
        for text in (
            " ", "  ", " measure 7", "measure 7 ", "measure  7", "set  a end", "set a  b end", "set a end ",
            "measure 7  measure 7", "2 times (  measure 7 )", "2 times ( measure 7  )",
            "2  times ( measure 7 )",
        ):
            self.refused(text)

    def test_blanks_too_few(self):
        for text in (
            "measure7", "2times ( measure 7 )", "2 times (measure 7 )", "2 times ( measure 7)",
            "2 times( measure 7 )", "set aend", "measure 7measure 7", "seta end",
            "2 times ( measure 7 )measure 7",
        ):
            self.refused(text)

    def test_other_partings(self):
        for parting in ("\n", "\t", "\r", "\v", "\f", "\r\n", " \n", "\n "):
            self.refused("measure" + parting + "7")
            self.refused("measure 7" + parting)
            self.refused(parting + "measure 7")
            self.refused("measure 7" + parting + "measure 7")
            self.refused("set a" + parting + "b end")
            self.refused("set a end" + parting)
            self.refused(parting)


class Numbers(CopyTest):
    def test_the_bounds_of_the_measure(self):
        for number in (1, 2, 9, 10, 99, 100, 999, 1000, 1999, 2000):
            self.told(f"measure {number}", [("measure", number)])
        for number in (0, 2001, 2010, 3000, 9999, 10000, 20000):
            self.refused(f"measure {number}")

    def test_the_bounds_of_times(self):
        for number in range(1, 10):
            self.told(f"{number} times ( measure 7 )", [("times", number, [M])])
        for number in (0, 10, 11, 99, 100, 9999):
            self.refused(f"{number} times ( measure 7 )")

    def test_the_bounds_of_gaps(self):
        for low, ideal, high in (
            (0, 0, 0), (0, 0, 99), (0, 99, 99), (99, 99, 99), (0, 1, 2), (1, 1, 2), (1, 2, 2), (98, 98, 99),
        ):
            self.told(f"gaps {low} {ideal} {high}", [("gaps", low, ideal, high)])
        for text in ("0 0 100", "0 100 100", "100 100 100", "99 99 100", "0 0 1000", "0 0 9999"):
            self.refused("gaps " + text)

    def test_gaps_that_do_not_rise(self):
        for text in ("1 0 0", "1 0 1", "0 1 0", "2 1 3", "1 3 2", "3 2 1", "99 98 99", "9 10 9"):
            self.refused("gaps " + text)

    def test_gaps_too_few_or_too_many(self):
        for text in ("gaps", "gaps 1", "gaps 1 2", "gaps 1 2 3 4", "gaps 1 2 measure 7", "gaps 1 2 set a end"):
            self.refused(text)

    def test_a_measure_too_few_or_too_many(self):
        for text in ("measure", "measure 7 8", "measure measure 7", "measure set a end", "measure gaps 1 2 3"):
            self.refused(text)

    def test_numbers_that_are_not_so_written(self):
        for word in (
            "01", "07", "007", "0001", "00", "0000", "00001", "+7", "-7", "-0", "+0", "7.", "7.0", "7,", "1e1",
            "0x7", "1_0", "7a", "a7", "a", "seven", "", "10000", "12345", "00000", "7\n", "\n7", "(7)", "7)",
            "'7'",
        ):
            self.refused(f"measure {word}")
            self.refused(f"gaps {word} 8 9")
            self.refused(f"gaps 0 {word} 99")
            self.refused(f"gaps 0 0 {word}")
            self.refused(f"{word} times ( measure 7 )")

    def test_noughts_within_and_behind(self):
        self.told("measure 1010", [("measure", 1010)])
        self.told("gaps 0 10 20", [("gaps", 0, 10, 20)])


class Sets(CopyTest):
    def test_each_sign(self):
        for sign in SIGNS:
            self.told(f"set {sign} end", [("set", [sign])])
        self.told(f"set {SIGNS} end", [("set", [SIGNS])])

    def test_no_other_sign(self):
        for number in range(128):
            if chr(number) not in SIGNS:
                self.refused(f"set {chr(number)} end")
                if chr(number) != " ":
                    self.refused(f"set a{chr(number)} end")
                    self.refused(f"set {chr(number)}a end")
                    self.refused(f"set a{chr(number)}b end")

    def test_words_with_signs_that_are_none(self):
        for word in ("A", "Word", "worD", "7", "a7", "(", ")", "(a)", "a)", "a/b", "a;", "a\"", "a_b", "END", "End"):
            self.refused(f"set {word} end")
            self.refused(f"set a {word} end")
            self.refused(f"set {word} a end")

    def test_without_words(self):
        self.refused("set end")
        self.refused("set end end")
        self.refused("set  end")
        self.refused("set a end set end")

    def test_without_an_end(self):
        for text in ("set", "set a", "set a b", "set a endx", "set a end.", "set a set b", "2 times ( set a )",
                     "set measure 7", "set a measure 7 end", "2 times ( set a ) end"):
            self.refused(text)

    def test_an_end_too_many(self):
        self.refused("set a end end")
        self.refused("set a end b end")
        self.refused("end set a end")

    def test_words_of_jobs_within_a_set(self):
        for word in ("set", "measure", "times", "gaps", "ending", "bend", "end.", "e", "en", "nd", "'end'"):
            self.told(f"set {word} end", [("set", [word])])
        self.told("set set measure gaps times set end", [("set", ["set", "measure", "gaps", "times", "set"])])
        self.told("2 times ( set times end )", [("times", 2, [("set", ["times"])])])


class Brackets(CopyTest):
    def test_within_one_another(self):
        for deep in range(5):
            self.told(nested_text(deep), nested_jobs(deep))

    def test_five_deep(self):
        for deep in (5, 6, 7, 50, 400):
            self.refused(nested_text(deep))
        self.refused("measure 7 " + nested_text(5))
        self.refused("1 times ( measure 7 " + nested_text(4) + " )")
        self.refused("1 times ( " + nested_text(3) + " " + nested_text(4) + " )")
        self.refused("1 times ( " * 900)

    def test_many_but_no_more_than_four_open_at_once(self):
        self.told(" ".join([nested_text(4)] * 3), nested_jobs(4) * 3)
        text = "1 times ( " + nested_text(3) + " " + nested_text(2) + " " + nested_text(3) + " )"
        self.told(text, [("times", 1, nested_jobs(3) + nested_jobs(2) + nested_jobs(3))])

    def test_without_brackets(self):
        for text in (
            "2 times", "2 times measure 7", "2 times set a end", "2 times measure 7 )", "2", "2 ( measure 7 )",
            "times ( measure 7 )", "( measure 7 )", "2 times 3 times ( measure 7 )", "2 3 times ( measure 7 )",
        ):
            self.refused(text)

    def test_none_in_them(self):
        for text in (
            "2 times ( )", "2 times ()", "2 times (  )", "2 times ( 2 times ( ) )",
            "2 times ( measure 7 3 times ( ) )", "2 times ( ) measure 7",
        ):
            self.refused(text)

    def test_not_closed(self):
        for text in (
            "2 times (", "2 times ( measure 7", "2 times ( 2 times ( measure 7 )",
            "2 times ( measure 7 measure 7", "2 times ( measure 7 (",
            "1 times ( 1 times ( 1 times ( 1 times ( set a end ) ) )",
        ):
            self.refused(text)

    def test_not_opened(self):
        for text in (
            ")", "measure 7 )", ") measure 7", "2 times ( measure 7 ) )", nested_text(4) + " )",
            "2 times ) measure 7 (", "measure )", "gaps 1 2 )", "2 times ( measure 7 ) ) measure 7",
        ):
            self.refused(text)

    def test_other_brackets(self):
        for text in (
            "2 times [ measure 7 ]", "2 times { measure 7 }", "2 times (( measure 7 ))",
            "2 times < measure 7 >",
        ):
            self.refused(text)


class AgainstAPattern(CopyTest):
    WORDS = (
        "measure", "gaps", "set", "end", "times", "(", ")", "0", "1", "9", "10", "99", "2000", "2001", "a",
        "b.", "A", "",
    )
    TEXTS = (
        "measure 1 gaps 0 9 10 set a b. end 9 times ( measure 2000 )",
        "1 times ( 1 times ( 1 times ( 1 times ( set times end ) ) ) measure 9 )",
        "2 times ( 1 times ( 1 times ( measure 1 ) set gaps a end ) )",
        "set measure gaps end gaps 9 9 99 1 times ( set a end set b. end )",
    )

    def look(self, text):
        if is_copy(text):
            self.assertEqual(shown_copy(read_copy(text)), text)
        else:
            with self.assertRaises(NoCopy, msg=text):
                read_copy(text)

    def test_the_texts_are_copy(self):
        for text in self.TEXTS:
            self.assertTrue(is_copy(text), text)

    def test_one_word_out(self):
        for text in self.TEXTS:
            words = text.split(" ")
            for at in range(len(words)):
                self.look(" ".join(words[:at] + words[at + 1:]))

    def test_one_word_more_or_another(self):
        for text in self.TEXTS:
            words = text.split(" ")
            for at, word in itertools.product(range(len(words) + 1), self.WORDS):
                self.look(" ".join(words[:at] + [word] + words[at:]))
                self.look(" ".join(words[:at] + [word] + words[at + 1:]))

    def test_cut_short(self):
        for text in self.TEXTS:
            for at in range(len(text)):
                self.look(text[:at])
                self.look(text[at:])

    def test_all_short_texts(self):
        words = ("measure", "gaps", "set", "end", "times", "(", ")", "1", "a")
        for many in range(5):
            for some in itertools.product(words, repeat=many):
                self.look(" ".join(some))


class Writing(CopyTest):
    def test_ordinary(self):
        for text, jobs in PAIRS:
            before = copy.deepcopy(jobs)
            told = shown_copy(jobs)
            self.assertEqual(told, text)
            self.assertIs(type(told), str)
            self.assertEqual(jobs, before)

    def test_none(self):
        self.assertEqual(shown_copy([]), "")

    def test_what_is_written_is_read_back(self):
        plain = [("measure", 1), ("measure", 2000), ("gaps", 0, 0, 0), ("gaps", 0, 10, 99), ("set", ["a"]),
                 ("set", ["set", "times"]), ("set", [SIGNS, "-", "'"])]
        rows = [list(row) for many in range(1, 3) for row in itertools.product(plain, repeat=many)]
        for row in rows:
            jobs = row
            for deep in range(5):
                self.assertEqual(read_copy(shown_copy(jobs)), jobs)
                jobs = [("measure", 5), ("times", deep + 1, jobs), ("times", 9, [("set", ["b"])])]


class TheAskersOwn(CopyTest):
    TEXT = "measure 7 set a b end 2 times ( set c end )"

    def test_what_was_read(self):
        jobs = read_copy(self.TEXT)
        again = read_copy(self.TEXT)
        for part in lists_in(jobs):
            part.append("more")
        self.assertEqual(again, [M, ("set", ["a", "b"]), ("times", 2, [("set", ["c"])])])
        self.assertEqual(read_copy(self.TEXT), again)

    def test_lists_are_not_shared(self):
        jobs = read_copy("set a end set a end 2 times ( set a end ) 2 times ( set a end )")
        found = lists_in(jobs)
        self.assertEqual(len({id(part) for part in found}), len(found))

    def test_an_empty_list_is_a_new_one(self):
        jobs = read_copy("")
        jobs.append(M)
        self.assertEqual(read_copy(""), [])

    def test_what_becomes_of_the_jobs_changes_no_text(self):
        jobs = read_copy(self.TEXT)
        told = shown_copy(jobs)
        for part in lists_in(jobs):
            part.clear()
        self.assertEqual(told, self.TEXT)

    def test_what_is_refused_changes_nothing(self):
        for again in range(2):
            self.refused("2 times ( measure 7")
            self.assertEqual(read_copy(self.TEXT)[0], M)


if __name__ == "__main__":
    unittest.main()
