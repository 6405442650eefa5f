"""The machine: keys are played tick by tick, lines are cast, and matrices fall into channels again."""

from linecaster.bars import falls_at
from linecaster.cases import channel_of, codes_of
from linecaster.keys import GAP_KEY, SEND_KEY, look_at_keys
from linecaster.matrices import channels_of

WEDGE = " "


class Machine:
    def __init__(self, case, keys, casting, broken=None):
        look_at_keys(case, keys)
        self.lying = channels_of(case, broken)
        self.case = list(case)
        self.played = keys
        self.struck = 0
        self.casting = casting
        self.line = []
        # No line is without signs, so the list without any says that no line is in the caster.
        self.heated = []
        self.to_go = 0
        self.hanging = []
        self.texts = []
        self.done = 0
        self.waits = 0

    def next_key(self):
        return self.played[self.struck] if self.struck < len(self.played) else ""

    def lacks_matrix(self):
        channel = channel_of(self.case, self.next_key())
        return channel is not None and self.lying[channel] == []

    def stuck(self):
        return self.lacks_matrix() and self.heated == [] and self.hanging == []

    def resting(self):
        return self.next_key() == "" and self.line == [] and self.heated == [] and self.hanging == []

    def move_bar(self):
        if self.hanging != []:
            matrix = self.hanging.pop(0)
            self.lying[falls_at(codes_of(self.case), matrix[1])].append(matrix)

    def move_caster(self):
        if self.heated == []:
            return
        self.to_go = self.to_go - 1
        if self.to_go <= 0:
            # A wedge is a text of one sign, so it tells its own sign as a matrix does.
            self.texts.append("".join([part[0] for part in self.heated]))
            self.hanging.extend([part for part in self.heated if part != WEDGE])
            self.heated = []

    def move_line(self):
        key = self.next_key()
        if key == SEND_KEY:
            self.send_line()
        elif key == GAP_KEY:
            self.take(WEDGE)
        elif self.lacks_matrix():
            self.waits = self.waits + 1
        elif key != "":
            self.take(self.lying[channel_of(self.case, key)].pop(0))

    def send_line(self):
        if self.heated == []:
            self.heated = self.line
            self.to_go = self.casting
            self.line = []
            self.struck = self.struck + 1

    def take(self, part):
        self.line.append(part)
        self.struck = self.struck + 1

    def tick(self):
        if self.resting() or self.stuck():
            return False
        self.move_bar()
        self.move_caster()
        self.move_line()
        self.done = self.done + 1
        return True

    def run(self):
        ahead = self.done
        while self.tick():
            pass
        return self.done - ahead

    def ticks(self):
        return self.done

    def slugs(self):
        return list(self.texts)

    def waited(self):
        return self.waits

    def channels(self):
        return [list(matrices) for matrices in self.lying]

    def numbers_lying(self):
        return [len(matrices) for matrices in self.lying]

    def gathered(self):
        return list(self.line)

    def in_caster(self):
        return list(self.heated)

    def bar(self):
        return list(self.hanging)
