"""Inner tables lifted: each is given a name, and a def or tab of its own."""

from sideturn.grid import askers_in, cells_told, makers_in
from sideturn.termlooker import Heads, asker_columns, kind_of_term, maker_columns
from sideturn.terms import (
    inner_rows, inner_tables, is_table, names_taken_by, parts, place_of, placed_program, remade,
    terms_within, with_terms,
)
from sideturn.values import number_itself, told_of
from sideturn.words import is_name

LETTERS = "abcdefghijklmnopqrstuvwxyz"


# The texts of small letters, counted from 0 by their lengths, then in order.
def letters_at(number):
    text = ""
    while number >= 0:
        text = LETTERS[number % len(LETTERS)] + text
        number = number // len(LETTERS) - 1
    return text


def names_bound_by(part):
    if part[0] == "let":
        return [part[1]]
    if not is_table(part):
        return []
    names = []
    for row in inner_rows(part):
        names.extend(row[1])
    return names


# The names of makers, of askers, and of all values.
def names_in(program):
    heads = []
    names = []
    for kind in program:
        heads.extend(list(makers_in(kind)) + list(askers_in(kind)))
        for maker, asker, term in cells_told(kind):
            for part in parts(term):
                names.extend(names_bound_by(part))
    for head in heads:
        names.append(head[0])
        names.extend([name for name, kind in head[1]])
    return dict([(name, True) for name in names])


# A table that is found while a term is made anew is kept ahead, with the
# kinds of the names bound around it, to be lifted in its turn.
class Lifting:
    def __init__(self, program):
        self.heads = Heads(program)
        self.used = names_in(program)
        self.tried = 0
        self.ahead = []
        self.names = {}
        for place, table in inner_tables(program):
            self.names[place] = self.fresh_name()

    # No name of the program is told, whatever it names: so it clashes nowhere.
    def fresh_name(self):
        while True:
            name = letters_at(self.tried)
            self.tried = self.tried + 1
            if is_name(name) and name not in self.used:
                return name


def kind_of(lifting, term, bound):
    return kind_of_term(lifting.heads, 0, term, bound)


# Rows of inner tables are not gone into: they are lifted by themselves.
def enter_part(lifting, part, bound):
    if part[0] == "let":
        inside = dict(bound)
        inside[part[1]] = kind_of(lifting, part[2], bound)
        return [(part[2], bound), (part[3], inside)]
    if part[0] == "case":
        return [(part[1], bound)]
    if part[0] == "new":
        return []
    return [(one, bound) for one in terms_within(part)]


def build_part(lifting, renamed, part, bound, inside):
    if part[0] == "name":
        return ("name", renamed.get(part[1], part[1]))
    if part[0] == "let":
        return ("let", renamed.get(part[1], part[1])) + tuple(inside)
    if not is_table(part):
        return with_terms(part, inside)
    lifting.ahead.append((part, bound))
    name = lifting.names[place_of(part)]
    handed = tuple([("name", renamed.get(one, one)) for one in names_taken_by(part)])
    return ("ask", inside[0], name, handed) if part[0] == "case" else ("make", name, handed)


def made_flat(lifting, term, bound, renamed):
    def enter(part, around):
        return enter_part(lifting, part, around)

    def build(part, around, inside):
        return build_part(lifting, renamed, part, around, inside)

    return remade(term, bound, enter, build)


# A let may bind a name that is now a field's or param's: it is given another.
def with_lets_renamed(lifting, term, renamed):
    new_names = list(renamed.values())
    names = dict(renamed)
    for part in parts(term):
        if part[0] == "let" and part[1] in new_names and part[1] not in names:
            names[part[1]] = lifting.fresh_name()
    return names


# A name that a table takes stays as it is, but where a field or param that
# may stand beside it in a cell has it.
def names_given(lifting, table, columns):
    beside = {}
    for pairs, result in columns.values():
        beside.update(dict(pairs))
    return [lifting.fresh_name() if name in beside else name for name in names_taken_by(table)]


def lifted_row(lifting, row, pairs, bound, given):
    name, names, term = row
    renamed = dict(given)
    inside = dict(bound)
    for own, (field, kind) in zip(names, pairs):
        renamed[own] = field
        inside[own] = kind
    return (name, made_flat(lifting, term, inside, with_lets_renamed(lifting, term, renamed)))


# The kind to which a table is lifted, and its def or tab there.
def lifted_table(lifting, table, bound):
    if table[0] == "case":
        kind = kind_of(lifting, table[1], bound)
        columns = maker_columns(lifting.heads.kinds[kind], table[2])
    else:
        kind = table[1]
        columns = asker_columns(lifting.heads.kinds[kind])
    taken = names_taken_by(table)
    new_names = names_given(lifting, table, columns)
    pairs = tuple([(new, bound[name]) for new, name in zip(new_names, taken)])
    given = dict(zip(taken, new_names))
    rows = tuple([lifted_row(lifting, row, columns[row[0]][0], bound, given) for row in inner_rows(table)])
    head = (lifting.names[place_of(table)], pairs)
    return (kind, head + ((table[2], rows) if table[0] == "case" else (rows,)))


def flat_kind(lifting, kind):
    tables = []
    for table in kind[3]:
        rows = []
        for name, term in table[-1]:
            maker, asker = (name, table[0]) if kind[0] == "made" else (table[0], name)
            bound = dict(lifting.heads.bound_in_cell(maker, asker))
            rows.append((name, made_flat(lifting, term, bound, {})))
        tables.append(table[:-1] + (tuple(rows),))
    return kind[:3] + (tuple(tables),)


def with_tables(kind, tables):
    return kind[:3] + (kind[3] + tuple(tables),)


# The lifted tables, by their kinds, in the order of their places.
def all_lifted(lifting):
    by_place = {}
    while lifting.ahead:
        table, bound = lifting.ahead.pop()
        by_place[place_of(table)] = lifted_table(lifting, table, bound)
    by_kind = {}
    for place in sorted(by_place):
        kind, table = by_place[place]
        by_kind.setdefault(kind, []).append(table)
    return by_kind


def lifted(program):
    lifting = Lifting(program)
    kinds = [flat_kind(lifting, kind) for kind in placed_program(program)]
    tables = all_lifted(lifting)
    flat = tuple([with_tables(kind, tables.get(kind[1], [])) for kind in kinds])
    return (flat, dict(lifting.names))


def lifted_name(names, name):
    return names.get(name, name)


def lifted_value(names, value):
    def renamed(word, name, inside):
        return (word, lifted_name(names, name), tuple(inside))

    return told_of(value, number_itself, renamed)


def lifted_end(names, end):
    if end is None:
        return None
    if end[0] == "answer":
        return ("answer", lifted_value(names, end[1]))
    return (end[0],) + tuple([lifted_name(names, name) for name in end[1:]])
