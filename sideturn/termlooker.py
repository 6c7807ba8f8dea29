"""Terms looked through: the kind of a term, or the first thing amiss in it.

What is still to be looked at is kept on a stack, the next thing on top, in
the place of calls within calls: a term may be deeper than Python lets calls
go. The kinds of the terms that are done are kept on another.
"""

from sideturn.errors import NoProgram
from sideturn.grid import askers_in, makers_in


# What a program whose heads are in order tells of its names.
class Heads:
    def __init__(self, program):
        self.kinds = {}
        self.makers = {}
        self.askers = {}
        for kind in program:
            self.kinds[kind[1]] = kind
            for maker, fields in makers_in(kind):
                self.makers[maker] = (kind[1], fields)
            for asker, params, result in askers_in(kind):
                self.askers[asker] = (kind[1], params, result)

    def is_told_by(self, side, kind):
        return kind in self.kinds and self.kinds[kind][0] == side

    def side_of_maker(self, maker):
        return self.kinds[self.makers[maker][0]][0]

    # The names that are bound in a cell, with their kinds.
    def bound_in_cell(self, maker, asker):
        return self.makers[maker][1] + self.askers[asker][1]


# Terms from outside of a program may be asked to be plain: then inner tables
# are refused, too, by a word that is told to no one.
class TermLook:
    def __init__(self, heads, row, tables_let):
        self.heads = heads
        self.text_row = row
        self.tables_let = tables_let
        self.ahead = []
        self.done = []

    def refuse(self, word):
        raise NoProgram(word, self.text_row)

    def plan(self, tasks):
        self.ahead.extend(tasks[::-1])

    def take_kind(self):
        return self.done.pop()

    def tell_kind(self, kind):
        self.done.append(kind)


# Columns tell, for each name that a row of a table may have, what is bound
# in its term and the kind that the term must be of.
def maker_columns(kind, result):
    return dict([(maker, (fields, result)) for maker, fields in makers_in(kind)])


def asker_columns(kind):
    return dict([(asker, (params, result)) for asker, params, result in askers_in(kind)])


def plan_handed(look, wanted, terms, bound, kind):
    if len(terms) != len(wanted):
        look.refuse("count")
    tasks = []
    for (name, wish), term in zip(wanted, terms):
        tasks.extend([("term", term, bound), ("want", wish)])
    look.plan(tasks + [("tell", kind)])


def plan_rows(look, columns, rows, bound, kind):
    tasks = [("row", columns, rows, k, bound) for k in range(len(rows))]
    look.plan(tasks + [("tell", kind)])


def look_name(look, term, bound):
    if term[1] not in bound:
        look.refuse("unknown")
    look.tell_kind(bound[term[1]])


def look_num(look, term, bound):
    look.tell_kind("number")


def look_op(look, term, bound):
    look.plan([
        ("term", term[2], bound), ("want", "number"),
        ("term", term[3], bound), ("want", "number"),
        ("tell", "number"),
    ])


def look_zero(look, term, bound):
    look.plan([
        ("term", term[1], bound), ("want", "number"),
        ("term", term[2], bound), ("term", term[3], bound), ("alike",),
    ])


def look_let(look, term, bound):
    look.plan([("term", term[2], bound), ("bind", term[1], term[3], bound)])


def look_make(look, term, bound):
    if term[1] not in look.heads.makers:
        look.refuse("unknown")
    kind, fields = look.heads.makers[term[1]]
    plan_handed(look, fields, term[2], bound, kind)


def look_ask(look, term, bound):
    look.plan([("term", term[1], bound), ("asker", term[2], term[3], bound)])


def look_case(look, term, bound):
    if not look.tables_let:
        look.refuse("table")
    look.plan([("term", term[1], bound), ("case", term[2], term[3], bound)])


def look_new(look, term, bound):
    if not look.tables_let:
        look.refuse("table")
    kind = term[1]
    if kind not in look.heads.kinds:
        look.refuse("unknown")
    if not look.heads.is_told_by("asked", kind):
        look.refuse("side")
    plan_rows(look, asker_columns(look.heads.kinds[kind]), term[2], bound, kind)


TERMS = {
    "name": look_name,
    "num": look_num,
    "op": look_op,
    "zero": look_zero,
    "let": look_let,
    "make": look_make,
    "ask": look_ask,
    "case": look_case,
    "new": look_new,
}


def do_term(look, task):
    word, term, bound = task
    TERMS[term[0]](look, term, bound)


def do_want(look, task):
    if look.take_kind() != task[1]:
        look.refuse("kind")


def do_tell(look, task):
    look.tell_kind(task[1])


def do_alike(look, task):
    other = look.take_kind()
    kind = look.take_kind()
    if other != kind:
        look.refuse("kind")
    look.tell_kind(kind)


def do_bind(look, task):
    word, name, term, bound = task
    kind = look.take_kind()
    if name in bound:
        look.refuse("twice")
    inside = dict(bound)
    inside[name] = kind
    look.plan([("term", term, inside)])


def do_asker(look, task):
    word, asker, terms, bound = task
    kind = look.take_kind()
    if asker not in look.heads.askers:
        look.refuse("unknown")
    owner, params, result = look.heads.askers[asker]
    if owner != kind:
        look.refuse("unknown")
    plan_handed(look, params, terms, bound, result)


def do_case(look, task):
    word, result, rows, bound = task
    kind = look.take_kind()
    if not look.heads.is_told_by("made", kind):
        look.refuse("side")
    if result != "number" and result not in look.heads.kinds:
        look.refuse("unknown")
    plan_rows(look, maker_columns(look.heads.kinds[kind], result), rows, bound, result)


def do_row(look, task):
    word, columns, rows, k, bound = task
    name, names, term = rows[k]
    if name not in columns:
        look.refuse("unknown")
    if name in [row[0] for row in rows[:k]]:
        look.refuse("twice")
    pairs, wish = columns[name]
    if len(names) != len(pairs):
        look.refuse("count")
    inside = dict(bound)
    for told, (field, kind) in zip(names, pairs):
        if told in inside:
            look.refuse("twice")
        inside[told] = kind
    look.plan([("term", term, inside), ("want", wish)])


TASKS = {
    "term": do_term,
    "want": do_want,
    "tell": do_tell,
    "alike": do_alike,
    "bind": do_bind,
    "asker": do_asker,
    "case": do_case,
    "row": do_row,
}


def looked_through(look, term, bound):
    look.plan([("term", term, bound)])
    while look.ahead:
        task = look.ahead.pop()
        TASKS[task[0]](look, task)
    return look.take_kind()


def kind_of_term(heads, row, term, bound):
    return looked_through(TermLook(heads, row, True), term, bound)


# The kind of a term that must be plain and closed.
def kind_of_plain_term(heads, term):
    return looked_through(TermLook(heads, 0, False), term, {})
