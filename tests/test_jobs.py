"""Point [20]: jobs that are opened to paragraphs."""

import copy
import random
import unittest

from linecaster.copies import read_copy
from linecaster.errors import CasterError, TooMany
from linecaster.jobs import opened_jobs

A = ("set", ["a"])
FIRST = (2, 4, 8)


def flat(jobs):
    """Another way to open: the brackets are written out first, then the plain jobs are walked."""
    plain = []
    for job in jobs:
        plain.extend(flat(job[2]) * job[1] if job[0] == "times" else [job])
    return plain


def told_by_walk(jobs):
    plain = flat(jobs)
    paragraphs = []
    for at, job in enumerate(plain):
        if job[0] == "set":
            measures = [100] + [other[1] for other in plain[:at] if other[0] == "measure"]
            gaps = [FIRST] + [other[1:] for other in plain[:at] if other[0] == "gaps"]
            paragraphs.append((measures[-1], gaps[-1], job[1]))
    return paragraphs


def some_jobs(chance, deep):
    jobs = []
    for again in range(chance.randint(1, 4)):
        kind = chance.choice(("measure", "gaps", "set", "set", "times", "times"))
        if kind == "measure":
            jobs.append(("measure", chance.randint(1, 2000)))
        elif kind == "gaps":
            jobs.append(("gaps",) + tuple(sorted(chance.randint(0, 99) for gap in range(3))))
        elif kind == "times" and deep > 0:
            jobs.append(("times", chance.randint(1, 3), some_jobs(chance, deep - 1)))
        else:
            jobs.append(("set", [chance.choice("abcd") for word in range(chance.randint(1, 12))]))
    return jobs


class JobsTest(unittest.TestCase):
    def told(self, jobs, expected):
        before = copy.deepcopy(jobs)
        paragraphs = opened_jobs(jobs)
        self.assertEqual(paragraphs, expected)
        self.assertEqual(jobs, before)
        self.assertIs(type(paragraphs), list)
        for paragraph in paragraphs:
            self.assertEqual([type(part) for part in (paragraph, *paragraph)], [tuple, int, tuple, list])

    def refused(self, jobs):
        before = copy.deepcopy(jobs)
        with self.assertRaises(TooMany):
            opened_jobs(jobs)
        self.assertEqual(jobs, before)


class Opening(JobsTest):
    def test_no_jobs(self):
        self.told([], [])

    def test_the_first_measure_and_gaps(self):
        self.told([A], [(100, (2, 4, 8), ["a"])])
        self.told([("set", ["the", "line"]), A], [(100, FIRST, ["the", "line"]), (100, FIRST, ["a"])])

    def test_no_set(self):
        self.told([("measure", 7), ("gaps", 1, 2, 3)], [])
        self.told([("times", 9, [("measure", 7)])], [])

    def test_told_ahead(self):
        self.told([("measure", 7), A], [(7, FIRST, ["a"])])
        self.told([("gaps", 0, 0, 99), A], [(100, (0, 0, 99), ["a"])])
        self.told([("measure", 2000), ("gaps", 1, 1, 1), A], [(2000, (1, 1, 1), ["a"])])

    def test_told_anew_between_sets(self):
        self.told(
            [A, ("measure", 7), A, A, ("gaps", 1, 2, 3), A, ("measure", 8), ("measure", 9), A, ("gaps", 0, 0, 0), A],
            [
                (100, FIRST, ["a"]), (7, FIRST, ["a"]), (7, FIRST, ["a"]), (7, (1, 2, 3), ["a"]),
                (9, (1, 2, 3), ["a"]), (9, (0, 0, 0), ["a"]),
            ],
        )

    def test_told_behind_the_last_set(self):
        self.told([A, ("measure", 7), ("gaps", 1, 2, 3)], [(100, FIRST, ["a"])])

    def test_words_stay_in_their_order(self):
        self.told([("set", ["c", "a", "b", "a"])], [(100, FIRST, ["c", "a", "b", "a"])])


class Times(JobsTest):
    def test_as_often_as_told(self):
        for many in range(1, 10):
            self.told([("times", many, [A])], [(100, FIRST, ["a"])] * many)

    def test_all_jobs_each_time(self):
        self.told(
            [("times", 2, [A, ("set", ["b"])])],
            [(100, FIRST, ["a"]), (100, FIRST, ["b"]), (100, FIRST, ["a"]), (100, FIRST, ["b"])],
        )

    def test_what_is_told_within_holds_behind(self):
        self.told(
            [("times", 1, [("measure", 7), ("gaps", 1, 2, 3), A]), A],
            [(7, (1, 2, 3), ["a"]), (7, (1, 2, 3), ["a"])],
        )
        self.told([("times", 3, [("measure", 7)]), A], [(7, FIRST, ["a"])])
        self.told([("times", 3, [("gaps", 1, 2, 3)]), A], [(100, (1, 2, 3), ["a"])])

    def test_what_is_told_within_holds_on_the_second_time_around(self):
        self.told(
            [("times", 3, [A, ("measure", 7)])],
            [(100, FIRST, ["a"]), (7, FIRST, ["a"]), (7, FIRST, ["a"])],
        )
        self.told(
            [("times", 2, [A, ("gaps", 1, 2, 3), A, ("gaps", 0, 1, 2)])],
            [(100, FIRST, ["a"]), (100, (1, 2, 3), ["a"]), (100, (0, 1, 2), ["a"]), (100, (1, 2, 3), ["a"])],
        )

    def test_what_is_told_ahead_holds_within(self):
        self.told([("measure", 7), ("times", 2, [A])], [(7, FIRST, ["a"])] * 2)

    def test_brackets_within_brackets(self):
        self.told([("times", 2, [("times", 3, [A])])], [(100, FIRST, ["a"])] * 6)
        self.told(
            [("times", 2, [A, ("times", 2, [("measure", 7), ("set", ["b"])]), ("measure", 8)]), ("set", ["c"])],
            [
                (100, FIRST, ["a"]), (7, FIRST, ["b"]), (7, FIRST, ["b"]),
                (8, FIRST, ["a"]), (7, FIRST, ["b"]), (7, FIRST, ["b"]), (8, FIRST, ["c"]),
            ],
        )
        self.told(
            [("times", 2, [("times", 2, [("times", 2, [("times", 2, [A, ("measure", 7)])])])])],
            [(100, FIRST, ["a"])] + [(7, FIRST, ["a"])] * 15,
        )

    def test_brackets_without_a_set_beside_sets(self):
        self.told(
            [("times", 2, [("times", 9, [("measure", 7), ("measure", 8)]), A, ("times", 9, [("gaps", 1, 2, 3)])])],
            [(8, FIRST, ["a"]), (8, (1, 2, 3), ["a"])],
        )

    def test_brackets_without_a_set_done_many_times(self):
        jobs = [("measure", 7), ("gaps", 1, 2, 3), ("measure", 9)]
        for deep in range(30):
            jobs = [("times", 9, jobs)]
        self.told(jobs, [])
        self.told(jobs + [A], [(9, (1, 2, 3), ["a"])])
        self.told([("times", 2, [A] + jobs)], [(100, FIRST, ["a"]), (9, (1, 2, 3), ["a"])])
        self.told([("times", 10 ** 50, [("measure", 7)]), A], [(7, FIRST, ["a"])])

    def test_wide_brackets_without_a_set(self):
        jobs = [("measure", number) for number in range(1, 301)]
        for deep in range(4):
            jobs = [("times", 9, jobs), ("measure", deep + 1)]
        self.told(jobs + [A], [(4, FIRST, ["a"])])

    def test_what_was_read(self):
        text = "set a end 2 times ( measure 7 set b c end 2 times ( set d end gaps 0 1 2 ) ) set e end"
        self.told(
            read_copy(text),
            [
                (100, FIRST, ["a"]), (7, FIRST, ["b", "c"]), (7, FIRST, ["d"]), (7, (0, 1, 2), ["d"]),
                (7, (0, 1, 2), ["b", "c"]), (7, (0, 1, 2), ["d"]), (7, (0, 1, 2), ["d"]), (7, (0, 1, 2), ["e"]),
            ],
        )

    def test_against_another_way(self):
        chance = random.Random(20)
        told = refused = 0
        for again in range(600):
            jobs = some_jobs(chance, 4)
            expected = told_by_walk(jobs)
            if len(expected) > 60 or sum(len(words) for measure, gaps, words in expected) > 400:
                self.refused(jobs)
                refused += 1
            else:
                self.told(jobs, expected)
                told += 1
        self.assertGreater(min(told, refused), 30)


class Bounds(JobsTest):
    def test_sixty_paragraphs(self):
        self.told([A] * 60, [(100, FIRST, ["a"])] * 60)
        self.refused([A] * 61)
        self.refused([A] * 400)

    def test_sixty_paragraphs_by_times(self):
        ten = [("times", 5, [("times", 2, [A])])]
        self.told([("times", 6, ten)], [(100, FIRST, ["a"])] * 60)
        self.refused([("times", 6, ten), A])
        self.refused([A, ("times", 6, ten)])
        self.refused([("times", 7, ten)])
        self.refused([("times", 9, [("times", 7, [A])])])

    def test_sixty_paragraphs_and_more_jobs_behind(self):
        self.told([A] * 60 + [("measure", 7), ("times", 9, [("gaps", 1, 2, 3)])], [(100, FIRST, ["a"])] * 60)

    def test_four_hundred_words(self):
        self.told([("set", ["a"] * 400)], [(100, FIRST, ["a"] * 400)])
        self.refused([("set", ["a"] * 401)])
        self.refused([("set", ["a"] * 400), A])
        self.refused([A, ("set", ["a"] * 400)])

    def test_four_hundred_words_of_several_paragraphs(self):
        ten = ("set", ["a"] * 10)
        self.told([ten] * 40, [(100, FIRST, ["a"] * 10)] * 40)
        self.refused([ten] * 40 + [A])
        self.told([ten] * 39 + [A] * 10, [(100, FIRST, ["a"] * 10)] * 39 + [(100, FIRST, ["a"])] * 10)
        self.refused([ten] * 39 + [A] * 11)

    def test_four_hundred_words_by_times(self):
        fifty = ("set", ["word"] * 50)
        self.told([("times", 8, [fifty])], [(100, FIRST, ["word"] * 50)] * 8)
        self.refused([("times", 8, [fifty]), A])
        self.refused([("times", 9, [fifty])])
        self.refused([("times", 3, [("times", 3, [("set", ["a"] * 45)])])])

    def test_words_are_counted_not_their_signs(self):
        self.told([("set", ["abcdefghij"] * 400)], [(100, FIRST, ["abcdefghij"] * 400)])

    def test_too_many_of_both(self):
        self.refused([("times", 9, [("times", 9, [("set", ["a"] * 9)])])])

    def test_very_many_are_refused_at_once(self):
        jobs = [A]
        for deep in range(30):
            jobs = [("times", 9, jobs)]
        self.refused(jobs)
        self.refused([("times", 10 ** 50, [A])])

    def test_the_refusal_is_a_caster_error(self):
        with self.assertRaises(CasterError):
            opened_jobs([A] * 61)

    def test_what_is_refused_changes_nothing(self):
        self.refused([A] * 61)
        self.told([A], [(100, FIRST, ["a"])])
        self.refused([("measure", 7), ("gaps", 1, 2, 3)] + [A] * 61)
        self.told([A] * 60, [(100, FIRST, ["a"])] * 60)


class TheAskersOwn(JobsTest):
    def test_words_of_two_paragraphs_of_the_same_set(self):
        jobs = [("times", 3, [("set", ["a", "b"])])]
        paragraphs = opened_jobs(jobs)
        paragraphs[0][2].append("more")
        paragraphs[1][2].clear()
        self.assertEqual(paragraphs[2][2], ["a", "b"])
        self.assertEqual(jobs, [("times", 3, [("set", ["a", "b"])])])
        self.assertEqual([words for measure, gaps, words in opened_jobs(jobs)], [["a", "b"]] * 3)

    def test_the_same_job_twice(self):
        job = ("set", ["a"])
        paragraphs = opened_jobs([job, job])
        paragraphs[0][2].append("more")
        self.assertEqual(paragraphs[1][2], ["a"])
        self.assertEqual(job, ("set", ["a"]))

    def test_what_becomes_of_the_jobs(self):
        jobs = [("set", ["a"]), ("times", 2, [("set", ["b"])])]
        paragraphs = opened_jobs(jobs)
        jobs[0][1].append("more")
        jobs[1][2][0][1].clear()
        jobs[1][2].clear()
        jobs.clear()
        self.assertEqual([words for measure, gaps, words in paragraphs], [["a"], ["b"], ["b"]])

    def test_the_list_of_paragraphs(self):
        first = opened_jobs([])
        first.append("more")
        self.assertEqual(opened_jobs([]), [])
        jobs = [A]
        first = opened_jobs(jobs)
        second = opened_jobs(jobs)
        first.clear()
        self.assertEqual(second, [(100, FIRST, ["a"])])


if __name__ == "__main__":
    unittest.main()
