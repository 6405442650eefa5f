"""Point [21]: the keys of lines, and keys that are read back to lines."""

import itertools
import random
import unittest

from linecaster.cases import SIGNS
from linecaster.errors import CasterError, NoKeys
from linecaster.keys import keys_of, lines_of

CASE = [("a", 10, 1, 5), ("n", 12, 2, 4), ("t", 7, 3, 0)]
FULL = [(sign, 10, code, 3) for code, sign in enumerate(SIGNS)]

PAIRS = (
    ([], ""),
    ([["a"]], "a/"),
    ([["tan"]], "tan/"),
    ([["a", "n"]], "a n/"),
    ([["an", "ant", "at"]], "an ant at/"),
    ([["a"], ["a"]], "a/a/"),
    ([["an", "ant"], ["tat"], ["a", "t", "nat"]], "an ant/tat/a t nat/"),
)


class KeysTest(unittest.TestCase):
    def refused(self, case, keys, at):
        before = list(case)
        with self.subTest(keys):
            with self.assertRaises(NoKeys) as caught:
                lines_of(case, keys)
            self.assertEqual(caught.exception.at, at)
            self.assertIs(type(caught.exception.at), int)
            self.assertEqual(case, before)


class Writing(KeysTest):
    def test_ordinary(self):
        for lines, keys in PAIRS:
            before = [list(line) for line in lines]
            self.assertEqual(keys_of(lines), keys)
            self.assertIs(type(keys_of(lines)), str)
            self.assertEqual(lines, before)

    def test_no_lines(self):
        self.assertEqual(keys_of([]), "")

    def test_words_that_no_case_was_told_of(self):
        self.assertEqual(keys_of([["it's", "a-b,"], ["z."]]), "it's a-b,/z./")

    def test_what_becomes_of_the_lines_changes_no_text(self):
        lines = [["an", "ant"], ["at"]]
        keys = keys_of(lines)
        lines[0].clear()
        lines.clear()
        self.assertEqual(keys, "an ant/at/")


class Reading(KeysTest):
    def test_ordinary(self):
        for lines, keys in PAIRS:
            told = lines_of(CASE, keys)
            self.assertEqual(told, lines)
            self.assertEqual([type(line) for line in [told] + told], [list] * (len(lines) + 1))

    def test_each_sign(self):
        for sign in SIGNS:
            self.assertEqual(lines_of(FULL, sign + "/"), [[sign]])
            self.assertEqual(lines_of([(sign, 1, 0, 0)], f"{sign} {sign}{sign}/"), [[sign, sign + sign]])
        self.assertEqual(lines_of(FULL, f"{SIGNS} {SIGNS}/{SIGNS}/"), [[SIGNS, SIGNS], [SIGNS]])

    def test_signs_of_which_the_case_has_no_matrix(self):
        self.assertEqual(lines_of(CASE, "ttt t/"), [["ttt", "t"]])

    def test_what_is_written_is_read_back(self):
        chance = random.Random(21)
        for again in range(300):
            lines = [
                ["".join(chance.choices(SIGNS, k=chance.randint(1, 6))) for word in range(chance.randint(1, 5))]
                for line in range(chance.randint(0, 6))
            ]
            keys = keys_of(lines)
            self.assertEqual(lines_of(FULL, keys), lines)
            self.assertEqual(keys_of(lines_of(FULL, keys)), keys)

    def test_long_keys(self):
        self.assertEqual(lines_of(CASE, "a/" * 4500), [["a"]] * 4500)
        self.assertEqual(lines_of(CASE, "n" * 8999 + "/"), [["n" * 8999]])
        self.refused(CASE, "a/" * 4499 + "a ", 9000)


class Wrong(KeysTest):
    def test_a_sign_without_a_channel(self):
        self.refused(CASE, "b/", 0)
        self.refused(CASE, "ab/", 1)
        self.refused(CASE, "a b/", 2)
        self.refused(CASE, "a/b/", 2)
        self.refused(CASE, "an ant/tab/", 9)
        self.refused(CASE, "b", 0)

    def test_another_sign(self):
        for sign in [chr(number) for number in range(128)]:
            if sign not in SIGNS + " /":
                self.refused(FULL, sign + "/", 0)
                self.refused(FULL, f"a{sign}/", 1)
                self.refused(FULL, f"a {sign}/", 2)
                self.refused(FULL, f"ab/{sign}", 3)
                self.refused(FULL, f"ab{sign}", 2)

    def test_a_blank(self):
        self.refused(CASE, " ", 0)
        self.refused(CASE, " a/", 0)
        self.refused(CASE, "  a/", 0)
        self.refused(CASE, "a  n/", 2)
        self.refused(CASE, "a n  t/", 4)
        self.refused(CASE, "a/ n/", 2)
        self.refused(CASE, "a/n/ ", 4)

    def test_a_line_that_is_sent(self):
        self.refused(CASE, "/", 0)
        self.refused(CASE, "/a/", 0)
        self.refused(CASE, "a /", 2)
        self.refused(CASE, "an t /n/", 5)
        self.refused(CASE, "a//", 2)
        self.refused(CASE, "a//n/", 2)
        self.refused(CASE, "a/n//", 4)

    def test_keys_that_end_within_a_line(self):
        self.refused(CASE, "a", 1)
        self.refused(CASE, "ant", 3)
        self.refused(CASE, "an ", 3)
        self.refused(CASE, "an t", 4)
        self.refused(CASE, "an/t", 4)
        self.refused(CASE, "an/t ", 5)
        self.refused(CASE, "an/t an", 7)

    def test_the_first_of_several(self):
        self.refused(CASE, "a/ b", 2)
        self.refused(CASE, "ab  //", 1)
        self.refused(CASE, "n//b", 2)

    def test_the_refusal_is_a_caster_error(self):
        with self.assertRaises(CasterError):
            lines_of(CASE, "/")

    def test_what_is_refused_changes_nothing(self):
        for again in range(2):
            self.refused(CASE, "a//", 2)
            self.assertEqual(lines_of(CASE, "a/"), [["a"]])


class AgainstAllShortKeys(KeysTest):
    """Good keys are made of lines here, and what begins them is found among their begins."""
    CASE = [("a", 1, 0, 1), ("b", 1, 1, 1)]
    MOST = 6

    def good_keys(self, most):
        words = ["".join(signs) for many in range(1, most) for signs in itertools.product("ab", repeat=many)]
        lines = {1: [[word] for word in words]}
        while lines[len(lines)]:
            longer = [line + [word] for line in lines[len(lines)] for word in words]
            lines[len(lines) + 1] = [line for line in longer if len(" ".join(line)) < most]
        single = [line for some in lines.values() for line in some]
        rows = {"": []}
        fresh = dict(rows)
        while fresh:
            fresh = {
                keys + " ".join(line) + "/": row + [line]
                for keys, row in fresh.items() for line in single
                if len(keys) + len(" ".join(line)) < most
            }
            rows.update(fresh)
        return rows

    def test_all(self):
        # What begins good keys is good with a sign and a `/` more at the most.
        good = self.good_keys(self.MOST + 2)
        begins = {keys[:many] for keys in good for many in range(len(keys) + 1)}
        for many in range(self.MOST + 1):
            for keys in map("".join, itertools.product("abc /", repeat=many)):
                wrong = [at for at in range(many) if keys[:at + 1] not in begins]
                if keys in good:
                    self.assertEqual(lines_of(self.CASE, keys), good[keys])
                else:
                    with self.assertRaises(NoKeys, msg=keys) as caught:
                        lines_of(self.CASE, keys)
                    self.assertEqual(caught.exception.at, wrong[0] if wrong else many, keys)


class TheAskersOwn(KeysTest):
    def test_what_was_read(self):
        first = lines_of(CASE, "an t/an t/")
        second = lines_of(CASE, "an t/an t/")
        first[0].append("more")
        self.assertEqual(first[1], ["an", "t"])
        first.clear()
        self.assertEqual(second, [["an", "t"], ["an", "t"]])

    def test_a_list_of_no_lines(self):
        lines_of(CASE, "").append("more")
        self.assertEqual(lines_of(CASE, ""), [])

    def test_the_case_stays(self):
        case = list(CASE)
        lines = lines_of(case, "an/")
        self.assertEqual(case, CASE)
        case.clear()
        self.assertEqual(lines, [["an"]])


if __name__ == "__main__":
    unittest.main()
