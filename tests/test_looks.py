"""Point [30]: what was cast is held against good keys."""

import itertools
import random
import unittest

from linecaster.errors import CasterError, NoKeys
from linecaster.keys import keys_of
from linecaster.looks import first_unlike
from linecaster.machine import Machine

CASE = [("a", 10, 1, 5), ("n", 12, 2, 4), ("t", 7, 3, 0)]

# Keys, slugs, and what is told.
TOLD = (
    ("", [], None),
    ("a/", ["a"], None),
    ("an ant/at/", ["an ant", "at"], None),
    ("a/a/a/", ["a", "a", "a"], None),
    # Another sign, at the begin, within and at the end of a line.
    ("an ant/at/", ["nn ant", "at"], (0, 0)),
    ("an ant/at/", ["an nnt", "at"], (0, 3)),
    ("an ant/at/", ["an ana", "at"], (0, 5)),
    ("an ant/at/", ["an ant", "aa"], (1, 1)),
    ("an ant/at/", ["an ant", "tt"], (1, 0)),
    # The first one of several.
    ("an ant/at/", ["aa nnt", "tt"], (0, 1)),
    ("an/at/ta/", ["an", "aa", "tt"], (1, 1)),
    # A sign and a blank.
    ("an ant/", ["anaant"], (0, 2)),
    ("anaant/", ["an ant"], (0, 2)),
    # Shorter or longer by the end.
    ("an ant/at/", ["an an", "at"], (0, 5)),
    ("an ant/at/", ["an antt", "at"], (0, 6)),
    ("an ant/at/", ["an ant ", "at"], (0, 6)),
    ("an ant/at/", ["an", "at"], (0, 2)),
    ("an/at/", ["an at", "at"], (0, 2)),
    ("an ant/at/", ["an ant", "a"], (1, 1)),
    ("an ant/at/", ["an ant", "att"], (1, 2)),
    ("an/", [""], (0, 0)),
    # Unlike ahead of the end of the shorter one.
    ("an ant/", ["aa"], (0, 1)),
    ("an/", ["nn ant"], (0, 0)),
    # A line lacks.
    ("a/", [], (0, 0)),
    ("an/at/", [], (0, 0)),
    ("an/at/", ["an"], (1, 0)),
    ("an/at/ta/", ["an", "at"], (2, 0)),
    # One too many.
    ("", ["a"], (0, 0)),
    ("", [""], (0, 0)),
    ("an/", ["an", "an"], (1, 0)),
    ("an/", ["an", ""], (1, 0)),
    ("an/at/", ["an", "at", "ta", "a"], (2, 0)),
    # An unlike line comes ahead of one that lacks or is one too many.
    ("an/at/ta/", ["an", "aa"], (1, 1)),
    ("an/", ["at", "an"], (0, 1)),
    # A line that lacks ahead of others makes these unlike.
    ("an/at/", ["at"], (0, 1)),
    # Whatever the slugs are: signs of no channel too.
    ("an/", ["aN"], (0, 1)),
    ("an/", ["an/"], (0, 2)),
)

WRONG_KEYS = (("/", 0), ("a", 1), ("an ", 3), ("an//", 3), ("ax/", 1), ("a  n/", 2), (" a/", 0), ("an/at", 5))


def plain_unlike(texts, slugs):
    """Another way: both are drawn out by what stands in neither, and the first pair that differs is found."""
    for line, (text, slug) in enumerate(itertools.zip_longest(texts, slugs)):
        if text is None or slug is None:
            return (line, 0)
        longest = max(len(text), len(slug))
        pairs = zip(text.ljust(longest, "#"), slug.ljust(longest, "#"))
        unlike = [place for place, (one, other) in enumerate(pairs) if one != other]
        if unlike:
            return (line, unlike[0])
    return None


class Looks(unittest.TestCase):
    def test_told(self):
        for keys, slugs, told in TOLD:
            with self.subTest(keys=keys, slugs=slugs):
                self.assertEqual(first_unlike(CASE, keys, slugs), told)

    def test_kinds(self):
        self.assertIsNone(first_unlike(CASE, "an/", ["an"]))
        for slugs in (["at"], ["an", "a"], []):
            told = first_unlike(CASE, "an/", slugs)
            self.assertIs(type(told), tuple)
            self.assertEqual([type(part) for part in told], [int, int])

    def test_against_another_way(self):
        chance = random.Random(30)
        nones = 0
        for again in range(1000):
            lines = [
                ["".join(chance.choices("an", k=chance.randint(1, 2))) for word in range(chance.randint(1, 2))]
                for line in range(chance.randint(0, 3))
            ]
            texts = [" ".join(line) for line in lines]
            slugs = list(texts)
            for spoil in range(chance.randint(0, 2)):
                at = chance.randint(0, len(slugs))
                if chance.random() < 0.3:
                    slugs.insert(at, chance.choice(("a", "n a", "")))
                elif at < len(slugs):
                    place = chance.randint(0, len(slugs[at]))
                    slugs[at] = slugs[at][:place] + chance.choice(("a", "n", " ", "")) + slugs[at][place + 1:]
            told = first_unlike(CASE, keys_of(lines), slugs)
            self.assertEqual(told, plain_unlike(texts, slugs), (texts, slugs))
            nones += told is None
        self.assertGreater(nones, 200)

    def test_long_lines_and_many_of_them(self):
        line = ["an" * 40] * 3
        texts = [" ".join(line)] * 30
        self.assertIsNone(first_unlike(CASE, keys_of([line] * 30), texts))
        last = texts[:-1] + [texts[-1][:-1] + "a"]
        self.assertEqual(first_unlike(CASE, keys_of([line] * 30), last), (29, len(texts[0]) - 1))

    def test_keys_that_are_not_good(self):
        for keys, at in WRONG_KEYS:
            for slugs in ([], [keys], ["an"], ["an", "at", "ta"]):
                with self.subTest(keys=keys, slugs=slugs):
                    before = (list(CASE), list(slugs))
                    with self.assertRaises(NoKeys) as caught:
                        first_unlike(CASE, keys, slugs)
                    self.assertEqual(caught.exception.at, at)
                    self.assertIsInstance(caught.exception, CasterError)
                    self.assertEqual((CASE, slugs), before)

    def test_what_is_handed_in_stays(self):
        for keys, slugs, told in TOLD:
            case, given = list(CASE), list(slugs)
            first_unlike(case, keys, given)
            self.assertEqual((case, given), (CASE, slugs))

    def test_what_a_machine_cast(self):
        case = [("a", 10, 1, 1), ("t", 7, 3, 1)]
        for broken, told in (([], None), ([(1, 2)], (2, 0))):
            machine = Machine(case, "t/a/a/", 1, broken)
            machine.run()
            self.assertEqual(first_unlike(case, "t/a/a/", machine.slugs()), told)

    def test_what_a_machine_has_not_yet_cast(self):
        machine = Machine(CASE, "an/na/", 2)
        self.assertEqual(first_unlike(CASE, "an/na/", machine.slugs()), (0, 0))
        while machine.slugs() == []:
            machine.tick()
        self.assertEqual(first_unlike(CASE, "an/na/", machine.slugs()), (1, 0))
        machine.run()
        self.assertIsNone(first_unlike(CASE, "an/na/", machine.slugs()))


if __name__ == "__main__":
    unittest.main()
