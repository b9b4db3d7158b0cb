"""The machine: does rows one by one, and clears away the cells to which nothing leads."""

from speakmill.cells import Cells, plain
from speakmill.collecting import swept
from speakmill.frames import called, entered, own_done
from speakmill.reckoning import DEEPEST


class Machine:
    def __init__(self, blocks, main, numbers, most):
        self.blocks = list(blocks)
        self.most = most
        self.store = Cells()
        self.standing = [entered(blocks, main, numbers)]
        # An answer, its value being one on the machine, or None as long as it is not over.
        self.outcome = None
        self.rows_so_far = 0
        self.calls_so_far = 0

    def step(self):
        if not self.standing:
            return False
        self.rows_so_far += 1
        frame = self.standing[-1]
        row = self.blocks[frame[0]][2][frame[1]]
        if row[0] == "back":
            self.leave(frame[3][-1])
        elif row[0] in ("call", "apply"):
            self.enter(frame, row)
        else:
            self.go_on(own_done(self.store, frame, row))
        return True

    def go_on(self, told):
        if told[0] == "frame":
            self.standing[-1] = told[1]
        else:
            self.end(told)

    def enter(self, frame, row):
        if self.calls_so_far >= self.most:
            self.end(("dry",))
            return
        self.calls_so_far += 1
        if len(self.standing) >= DEEPEST:
            self.end(("deep",))
            return
        frames = called(self.blocks, self.store, frame, row)
        self.standing[-1] = frames[0]
        self.standing.append(frames[1])

    def leave(self, value):
        if len(self.standing) == 1:
            self.end(("value", value))
            return
        self.standing.pop()
        below = self.standing[-1]
        self.standing[-1] = below[:3] + (below[3] + (value,),)

    def end(self, outcome):
        self.standing = []
        self.outcome = outcome

    def collect(self):
        ahead = self.store.many()
        told = swept(self.store, self.hung_on())
        self.store = told[0]
        self.hang_on(told[1])
        return ahead - self.store.many()

    # The values by which cells are kept: of the frames, or, when there are none any more, of the outcome.
    def hung_on(self):
        if self.has_value():
            return [self.outcome[1]]
        found = []
        for frame in self.standing:
            found.extend(frame[2] + frame[3])
        return found

    def hang_on(self, values):
        if self.has_value():
            self.outcome = ("value", values[0])
        at = 0
        frames = []
        for frame in self.standing:
            stack_at = at + len(frame[2])
            end = stack_at + len(frame[3])
            frames.append((frame[0], frame[1], tuple(values[at:stack_at]), tuple(values[stack_at:end])))
            at = end
        self.standing = frames

    def has_value(self):
        return self.outcome is not None and self.outcome[0] == "value"

    def answer(self):
        if self.has_value():
            return ("value", plain(self.store, self.outcome[1]))
        return self.outcome

    def frames(self):
        return list(self.standing)

    def cells(self):
        return self.store.told()

    def rows_done(self):
        return self.rows_so_far

    def calls(self):
        return self.calls_so_far


def run(blocks, main, numbers, most, rounds):
    return ended(blocks, main, numbers, most, rounds).answer()


# A machine by which all is over.
def ended(blocks, main, numbers, most, rounds):
    machine = Machine(blocks, main, numbers, most)
    asked = dict([(number, True) for number in rounds])
    while machine.answer() is None:
        if machine.rows_done() in asked:
            machine.collect()
        machine.step()
    return machine
