"""A machine that does code, row after row."""

from sideturn.grid import askers_in, makers_in
from sideturn.values import thing_made, thing_of_number, thing_of_op


# The askers of each maker's kind, in order.
def askers_by_maker(program):
    told = {}
    for kind in program:
        askers = [asker[0] for asker in askers_in(kind)]
        for maker in makers_in(kind):
            told[maker[0]] = askers
    return told


# Things are as in runs. The frames left, each with the row to go on at, are
# those of the jumps and doors not yet gone back from.
class Machine:
    def __init__(self, program, code):
        rows, jumps, doors = code
        self.code_rows = rows
        self.jump_goals = [(asker, dict(pairs)) for asker, pairs in jumps]
        self.door_goals = dict([(maker, dict(pairs)) for maker, pairs in doors])
        self.door_askers = askers_by_maker(program)
        self.at = 0
        self.stack = []
        self.frame = []
        self.frames_left = []
        self.gone = []
        self.ending = None

    def take_things(self, many):
        return [self.stack.pop() for k in range(many)][::-1]

    # A goal that is None is that of a cell that lacks.
    def enter_cell(self, cell, goal, things):
        self.gone.append(cell)
        if goal is None:
            self.ending = ("fault",) + cell
        else:
            self.frames_left.append((self.at, self.frame))
            self.at = goal
            self.frame = things

    def go(self, most):
        last = len(self.gone) + most
        while self.ending is None:
            row = self.code_rows[self.at]
            if row[0] in ("jump", "door") and len(self.gone) >= last:
                return False
            self.at = self.at + 1
            ROWS[row[0]](self, row)
        return True

    def cells(self):
        return list(self.gone)

    def end(self):
        return self.ending

    def jumps(self):
        return len(self.gone)


def do_num(machine, row):
    machine.stack.append(thing_of_number(row[1]))


def do_name(machine, row):
    machine.stack.append(machine.frame[row[1]])


def do_op(machine, row):
    one, other = machine.take_things(2)
    machine.stack.append(thing_of_op(row[1], one, other))


def do_zero(machine, row):
    if machine.stack.pop()[0] != 0:
        machine.at = row[1]


def do_go(machine, row):
    machine.at = row[1]


def do_keep(machine, row):
    machine.frame.append(machine.stack.pop())


def do_drop(machine, row):
    machine.frame.pop()


def do_make(machine, row):
    word, side, maker, many = row
    thing = thing_made(side, maker, machine.take_things(many))
    if thing is None:
        machine.ending = ("great", maker)
    else:
        machine.stack.append(thing)


def do_jump(machine, row):
    handed = machine.take_things(row[2])
    value, size, deep, inside = machine.stack.pop()
    asker, goals = machine.jump_goals[row[1]]
    machine.enter_cell((value[1], asker), goals.get(value[1]), list(inside) + handed)


def do_door(machine, row):
    handed = machine.take_things(row[2])
    value, size, deep, inside = machine.stack.pop()
    asker = machine.door_askers[value[1]][row[1]]
    goals = machine.door_goals[value[1]]
    machine.enter_cell((value[1], asker), goals.get(asker), list(inside) + handed)


def do_back(machine, row):
    at, frame = machine.frames_left.pop()
    machine.at = at
    machine.frame = frame


def do_end(machine, row):
    machine.ending = ("answer", machine.stack.pop()[0])


ROWS = {
    "num": do_num,
    "name": do_name,
    "op": do_op,
    "zero": do_zero,
    "go": do_go,
    "keep": do_keep,
    "drop": do_drop,
    "make": do_make,
    "jump": do_jump,
    "door": do_door,
    "back": do_back,
    "end": do_end,
}
