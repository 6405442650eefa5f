"""Copy: a text of jobs, read to tuples and written again."""

from linecaster.cases import is_sign
from linecaster.errors import NoCopy

FIGURES = "0123456789"
MOST_BRACKETS = 4


def is_number(word):
    if len(word) > 1 and word[0] == "0":
        return False
    return 1 <= len(word) <= 4 and all([figure in FIGURES for figure in word])


def is_set_word(word):
    return word != "" and word != "end" and all([is_sign(sign) for sign in word])


def word_at(words, at):
    # A word without signs stands nowhere in copy, so behind the last word it says that there is none.
    return words[at] if at < len(words) else ""


def read_number(words, at, low, high):
    word = word_at(words, at)
    if not is_number(word) or not low <= int(word) <= high:
        raise NoCopy(f"the word with the number {at} is no number from {low} to {high}")
    return int(word)


def look_for(words, at, word):
    if word_at(words, at) != word:
        raise NoCopy(f"the word with the number {at} is not {word!r}")


def read_measure(words, at):
    return (("measure", read_number(words, at + 1, 1, 2000)), at + 2)


def read_gaps(words, at):
    low = read_number(words, at + 1, 0, 99)
    ideal = read_number(words, at + 2, low, 99)
    high = read_number(words, at + 3, ideal, 99)
    return (("gaps", low, ideal, high), at + 4)


def read_set(words, at):
    end = at + 1
    while is_set_word(word_at(words, end)):
        end = end + 1
    if end == at + 1:
        raise NoCopy(f"there is no word to be set at the number {end}")
    look_for(words, end, "end")
    return (("set", words[at + 1:end]), end + 1)


def read_times(words, at, brackets):
    many = read_number(words, at, 1, 9)
    look_for(words, at + 1, "times")
    look_for(words, at + 2, "(")
    if brackets == MOST_BRACKETS:
        raise NoCopy(f"the word with the number {at} begins a job within more than {brackets} brackets")
    jobs, end = read_jobs(words, at + 3, brackets + 1)
    if len(jobs) == 0:
        raise NoCopy(f"there is no job in the brackets at the number {at}")
    look_for(words, end, ")")
    return (("times", many, jobs), end + 1)


def read_job(words, at, brackets):
    if words[at] == "measure":
        return read_measure(words, at)
    if words[at] == "gaps":
        return read_gaps(words, at)
    if words[at] == "set":
        return read_set(words, at)
    return read_times(words, at, brackets)


def read_jobs(words, at, brackets):
    """The jobs from there on and the number of the word behind them: of a closing bracket, or of none."""
    jobs = []
    while at < len(words) and words[at] != ")":
        job, at = read_job(words, at, brackets)
        jobs.append(job)
    return (jobs, at)


def read_copy(text):
    # A split would make one word without signs of the text without a sign.
    words = text.split(" ") if text != "" else []
    jobs, end = read_jobs(words, 0, 0)
    if end < len(words):
        raise NoCopy(f"the word with the number {end} closes no bracket")
    return jobs


def shown_job(job):
    if job[0] == "set":
        return " ".join(["set"] + job[1] + ["end"])
    if job[0] == "times":
        return " ".join([str(job[1]), "times", "(", shown_copy(job[2]), ")"])
    return " ".join([str(part) for part in job])


def shown_copy(jobs):
    return " ".join([shown_job(job) for job in jobs])
