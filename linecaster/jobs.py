"""Jobs: opened to paragraphs, tuples (measure, gaps, words)."""

from linecaster.errors import TooMany

FIRST_MEASURE = 100
FIRST_GAPS = (2, 4, 8)
MOST_PARAGRAPHS = 60
MOST_WORDS = 400


def add_paragraph(paragraphs, paragraph):
    paragraphs.append(paragraph)
    if len(paragraphs) > MOST_PARAGRAPHS:
        raise TooMany(f"there are more than {MOST_PARAGRAPHS} paragraphs")
    if sum([len(words) for measure, gaps, words in paragraphs]) > MOST_WORDS:
        raise TooMany(f"there are more than {MOST_WORDS} words")


def do_times(many, jobs, measure, gaps, paragraphs):
    for again in range(many):
        ahead = len(paragraphs)
        measure, gaps = do_jobs(jobs, measure, gaps, paragraphs)
        if len(paragraphs) == ahead:
            # Without a set another time comes to the same measure and gaps, however many are told.
            break
    return (measure, gaps)


def do_jobs(jobs, measure, gaps, paragraphs):
    """Puts the jobs' paragraphs behind those that are there; tells the measure and the gaps that hold behind them."""
    for job in jobs:
        if job[0] == "measure":
            measure = job[1]
        elif job[0] == "gaps":
            gaps = job[1:]
        elif job[0] == "set":
            add_paragraph(paragraphs, (measure, gaps, list(job[1])))
        else:
            measure, gaps = do_times(job[1], job[2], measure, gaps, paragraphs)
    return (measure, gaps)


def opened_jobs(jobs):
    paragraphs = []
    do_jobs(jobs, FIRST_MEASURE, FIRST_GAPS, paragraphs)
    return paragraphs
