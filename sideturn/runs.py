"""Runs: a term done step by step, by the cells of a program.

What is still to be done is kept on a stack, the next task on top, and the
things that are done on another, in the place of calls within calls: asks may
wait for one another deeper than Python lets calls go.
"""

from sideturn.grid import cells_told
from sideturn.looker import look_term
from sideturn.termlooker import Heads
from sideturn.terms import inner_rows, is_table, names_taken_by, parts, place_of, placed_program
from sideturn.values import thing_made, thing_of_number, thing_of_op


# A term being done: till a step is due, (its cell, the names bound around it,
# the things by which it is done), or till the end.
class Doing:
    def __init__(self, heads):
        self.heads = heads
        self.ahead = []
        self.done = []
        self.due = None
        self.ending = None
        self.many_waiting = 0

    def plan(self, tasks):
        self.ahead.extend(tasks[::-1])

    def take_things(self, many):
        return [self.done.pop() for k in range(many)][::-1]

    def tell_made(self, word, name, things):
        thing = thing_made(word, name, things)
        if thing is None:
            self.ending = ("great", name)
        else:
            self.done.append(thing)


def begin_name(doing, term, bound):
    doing.done.append(bound[term[1]])


def begin_num(doing, term, bound):
    doing.done.append(thing_of_number(term[1]))


def begin_op(doing, term, bound):
    doing.plan([("term", term[2], bound), ("term", term[3], bound), ("op", term[1])])


def begin_zero(doing, term, bound):
    doing.plan([("term", term[1], bound), ("zero", term[2], term[3], bound)])


def begin_let(doing, term, bound):
    doing.plan([("term", term[2], bound), ("let", term[1], term[3], bound)])


def begin_make(doing, term, bound):
    tasks = [("term", one, bound) for one in term[2]]
    doing.plan(tasks + [("make", term[1], len(term[2]))])


def begin_ask(doing, term, bound):
    tasks = [("term", one, bound) for one in term[3]]
    doing.plan([("term", term[1], bound)] + tasks + [("ask", term[2], len(term[3]))])


def begin_case(doing, table, bound):
    doing.plan([("term", table[1], bound), ("case", place_of(table), bound)])


def begin_new(doing, table, bound):
    things = [bound[name] for name in names_taken_by(table)]
    doing.tell_made("asked", place_of(table), things)


TERMS = {
    "name": begin_name,
    "num": begin_num,
    "op": begin_op,
    "zero": begin_zero,
    "let": begin_let,
    "make": begin_make,
    "ask": begin_ask,
    "case": begin_case,
    "new": begin_new,
}


def do_term(doing, task):
    word, term, bound = task
    TERMS[term[0]](doing, term, bound)


def do_op(doing, task):
    one, other = doing.take_things(2)
    doing.done.append(thing_of_op(task[1], one, other))


def do_zero(doing, task):
    word, then, otherwise, bound = task
    number = doing.done.pop()[0]
    doing.plan([("term", then if number == 0 else otherwise, bound)])


def do_let(doing, task):
    word, name, term, bound = task
    inside = dict(bound)
    inside[name] = doing.done.pop()
    doing.plan([("term", term, inside)])


def do_make(doing, task):
    word, maker, many = task
    doing.tell_made(doing.heads.side_of_maker(maker), maker, doing.take_things(many))


def do_ask(doing, task):
    word, asker, many = task
    handed = doing.take_things(many)
    value, size, deep, inside = doing.done.pop()
    doing.due = ((value[1], asker), {}, list(inside) + handed)


def do_case(doing, task):
    word, place, bound = task
    value, size, deep, inside = doing.done.pop()
    doing.due = ((value[1], place), bound, list(inside))


def do_back(doing, task):
    doing.many_waiting = doing.many_waiting - 1


TASKS = {
    "term": do_term,
    "op": do_op,
    "zero": do_zero,
    "let": do_let,
    "make": do_make,
    "ask": do_ask,
    "case": do_case,
    "back": do_back,
}


def do_on(doing):
    while doing.ahead and doing.due is None and doing.ending is None:
        task = doing.ahead.pop()
        TASKS[task[0]](doing, task)
    if doing.due is None and doing.ending is None:
        doing.ending = ("answer", doing.done.pop()[0])


def begun(heads, term):
    doing = Doing(heads)
    doing.plan([("term", term, {})])
    do_on(doing)
    return doing


# From each cell, told as a step's, to the names to which its things are
# bound, in order, and its term.
def run_cells(program, heads):
    cells = {}
    for kind in placed_program(program):
        for maker, asker, term in cells_told(kind):
            names = tuple([name for name, told in heads.bound_in_cell(maker, asker)])
            cells[(maker, asker)] = (names, term)
            for part in parts(term):
                if is_table(part):
                    cells.update(table_cells(part))
    return cells


def table_cells(table):
    cells = {}
    place = place_of(table)
    for name, names, term in inner_rows(table):
        if table[0] == "case":
            cells[(name, place)] = (names, term)
        else:
            cells[(place, name)] = (names_taken_by(table) + names, term)
    return cells


class Run:
    def __init__(self, program, term):
        look_term(program, term)
        heads = Heads(program)
        self.grid = run_cells(program, heads)
        self.doing = begun(heads, term)
        self.gone = []

    def step(self):
        doing = self.doing
        if doing.ending is not None:
            return False
        cell, bound, things = doing.due
        doing.due = None
        doing.many_waiting = doing.many_waiting + 1
        self.gone.append(cell)
        if cell not in self.grid:
            doing.ending = ("fault",) + cell
            return True
        names, term = self.grid[cell]
        inside = dict(list(bound.items()) + list(zip(names, things)))
        doing.plan([("term", term, inside), ("back",)])
        do_on(doing)
        return True

    def cells(self):
        return list(self.gone)

    def waiting(self):
        return self.doing.many_waiting

    def end(self):
        return self.doing.ending


def ran(program, term, most):
    run = Run(program, term)
    steps = 0
    while steps < most and run.step():
        steps = steps + 1
    end = run.end()
    return (("late",) if end is None else end, steps)
