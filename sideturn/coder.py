"""Code made of a flat program and a term, for the machine.

What is still to be coded is kept on a stack, the next task on top, in the
place of calls within calls, as in termlooker.
"""

from sideturn.grid import askers_in
from sideturn.looker import look_term
from sideturn.termlooker import Heads


# How each asker is gone to: by the number of its def among all defs, or by
# its own among the askers of its kind.
def ways_to_askers(program):
    ways = {}
    defs = 0
    for kind in program:
        for number, asker in enumerate(askers_in(kind)):
            ways[asker[0]] = ("jump", defs + number) if kind[0] == "made" else ("door", number)
        if kind[0] == "made":
            defs = defs + len(kind[3])
    return ways


# The scope tells where in the frame each name's thing lies. No name is bound
# twice in one, so there are as many things in the frame as names in the scope.
class Coding:
    def __init__(self, program):
        self.heads = Heads(program)
        self.ways = ways_to_askers(program)
        self.coded = []
        self.ahead = []

    def plan(self, tasks):
        self.ahead.extend(tasks[::-1])

    def tell_row(self, row):
        self.coded.append(row)

    # The row that comes next.
    def here(self):
        return len(self.coded)


def tasks_of_terms(terms, scope):
    return [("term", term, scope) for term in terms]


def code_name(coding, term, scope):
    coding.tell_row(("name", scope[term[1]]))


def code_num(coding, term, scope):
    coding.tell_row(term)


def code_op(coding, term, scope):
    coding.plan(tasks_of_terms(term[2:], scope) + [("row", ("op", term[1]))])


def code_zero(coding, term, scope):
    coding.plan(tasks_of_terms(term[1:2], scope) + [("split", term[2], term[3], scope)])


def code_let(coding, term, scope):
    inside = dict(scope)
    inside[term[1]] = len(scope)
    coding.plan([("term", term[2], scope), ("row", ("keep",)), ("term", term[3], inside), ("row", ("drop",))])


def code_make(coding, term, scope):
    row = ("make", coding.heads.side_of_maker(term[1]), term[1], len(term[2]))
    coding.plan(tasks_of_terms(term[2], scope) + [("row", row)])


def code_ask(coding, term, scope):
    row = coding.ways[term[2]] + (len(term[3]),)
    coding.plan(tasks_of_terms((term[1],) + term[3], scope) + [("row", row)])


TERMS = {
    "name": code_name,
    "num": code_num,
    "op": code_op,
    "zero": code_zero,
    "let": code_let,
    "make": code_make,
    "ask": code_ask,
}


def do_term(coding, task):
    word, term, scope = task
    TERMS[term[0]](coding, term, scope)


def do_row(coding, task):
    coding.tell_row(task[1])


# A row whose goal isn't known yet is put down as None and told later.
def do_split(coding, task):
    word, then, otherwise, scope = task
    split = coding.here()
    coding.tell_row(None)
    coding.plan([("term", then, scope), ("other", split, otherwise, scope)])


def do_other(coding, task):
    word, split, otherwise, scope = task
    leave = coding.here()
    coding.tell_row(None)
    coding.coded[split] = ("zero", coding.here())
    coding.plan([("term", otherwise, scope), ("join", leave)])


def do_join(coding, task):
    coding.coded[task[1]] = ("go", coding.here())


TASKS = {
    "term": do_term,
    "row": do_row,
    "split": do_split,
    "other": do_other,
    "join": do_join,
}


# The row at which the term's code begins.
def code_term(coding, term, names, last):
    begin = coding.here()
    scope = dict([(name, number) for number, name in enumerate(names)])
    coding.plan([("term", term, scope), ("row", last)])
    while coding.ahead:
        task = coding.ahead.pop()
        TASKS[task[0]](coding, task)
    return begin


def code_cell(coding, maker, asker, term):
    names = [name for name, kind in coding.heads.bound_in_cell(maker, asker)]
    return code_term(coding, term, names, ("back",))


def code_table(coding, side, table):
    pairs = []
    for name, term in table[-1]:
        maker, asker = (name, table[0]) if side == "made" else (table[0], name)
        pairs.append((name, code_cell(coding, maker, asker, term)))
    return (table[0], tuple(pairs))


def code_tables(coding, program, side):
    told = []
    for kind in program:
        if kind[0] == side:
            told.extend([code_table(coding, side, table) for table in kind[3]])
    return tuple(told)


def code_of(program, term):
    look_term(program, term)
    coding = Coding(program)
    code_term(coding, term, [], ("end",))
    jumps = code_tables(coding, program, "made")
    doors = code_tables(coding, program, "asked")
    return (tuple(coding.coded), jumps, doors)
