"""The desk: rows are told to it, and it sets copy and plays it on its machine."""

from linecaster.breaking import breaks_of, broken_lines
from linecaster.cases import can_set
from linecaster.casetexts import read_case
from linecaster.copies import is_number, read_copy
from linecaster.errors import NoNumber, NoRow, NoText
from linecaster.jobs import opened_jobs
from linecaster.keys import keys_of
from linecaster.lines import full_gap, last_gap
from linecaster.machine import Machine
from linecaster.needs import need_of

MOST_CASTING = 20
COPY_ROWS = ("lines", "gaps", "keys", "need")
MACHINE_ROWS = ("start", "run", "slugs", "state", "waited")


def is_known(words):
    if "" in words:
        return False
    if words[0] == "copy":
        return len(words) >= 2
    if words[0] == "tick":
        return len(words) == 2
    return len(words) == 1 and (words[0] in COPY_ROWS or words[0] in MACHINE_ROWS)


def read_ticks(word):
    # Four figures at the most: so no number is beyond 9999.
    if not is_number(word):
        raise NoNumber(f"{word!r} is no number of ticks")
    return int(word)


def gaps_of(case, lines, measure, gaps):
    full = [full_gap(case, line, measure, gaps) for line in lines[:-1]]
    return full + [last_gap(case, lines[-1], measure, gaps)]


def set_paragraph(case, paragraph):
    """The paragraph's lines, each in a tuple with its gap."""
    measure, gaps, words = paragraph
    for word in words:
        if not can_set(case, word):
            raise NoText(f"the word {word!r} can't be set")
    lines = broken_lines(words, breaks_of(case, words, measure, gaps))
    return list(zip(lines, gaps_of(case, lines, measure, gaps)))


def set_copy(case, text):
    rows = []
    for paragraph in opened_jobs(read_copy(text)):
        rows.extend(set_paragraph(case, paragraph))
    return rows


def shown_gap(gap):
    top, bottom = gap
    return f"{top}" if bottom == 1 else f"{top}/{bottom}"


def state_of(machine):
    if machine.resting():
        return "rest"
    return "stuck" if machine.stuck() else "going"


def tick_often(machine, often):
    done = 0
    while done < often and machine.tick():
        done = done + 1
    return done


class Desk:
    def __init__(self, case_text, casting):
        self.case = read_case(case_text)
        if not 1 <= casting <= MOST_CASTING:
            raise NoNumber(f"{casting} is no casting time from 1 to {MOST_CASTING}")
        self.casting = casting
        # The copy's lines, each in a tuple with its gap.
        self.composed = []
        self.machine = Machine(self.case, "", casting)

    def copy_keys(self):
        return keys_of([line for line, gap in self.composed])

    def say(self, row):
        words = row.split(" ")
        if not is_known(words):
            raise NoRow(f"{row!r} is no row that the desk knows")
        if words[0] == "copy":
            return self.take_copy(" ".join(words[1:]))
        if words[0] == "tick":
            return [str(tick_often(self.machine, read_ticks(words[1])))]
        return self.tell_copy(words[0]) if words[0] in COPY_ROWS else self.play(words[0])

    def take_copy(self, text):
        self.composed = set_copy(self.case, text)
        return [str(len(self.composed))]

    def tell_copy(self, word):
        if word == "lines":
            return [" ".join(line) for line, gap in self.composed]
        if word == "gaps":
            return [shown_gap(gap) for line, gap in self.composed]
        if word == "keys":
            return [self.copy_keys()]
        return [" ".join([str(many) for many in need_of(self.case, self.copy_keys(), self.casting)])]

    def play(self, word):
        if word == "start":
            self.machine = Machine(self.case, self.copy_keys(), self.casting)
            return []
        if word == "run":
            return [str(self.machine.run())]
        if word == "slugs":
            return self.machine.slugs()
        if word == "state":
            return [state_of(self.machine)]
        return [str(self.machine.waited())]
