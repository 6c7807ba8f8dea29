"""Terms, walked part by part, and the inner tables of programs."""

from sideturn.grid import numbered_kinds, numbered_tables

INNER_TABLES = ("case", "new")


# The terms that stand right in a term, in the text's order.
def terms_within(term):
    word = term[0]
    if word in ("op", "let"):
        return list(term[2:])
    if word == "zero":
        return list(term[1:])
    if word == "make":
        return list(term[2])
    if word == "ask":
        return [term[1]] + list(term[3])
    if word == "case":
        return [term[1]] + [row[2] for row in term[3]]
    if word == "new":
        return [row[2] for row in term[2]]
    return []


# A stack in the place of calls within calls: a term may be deeper than
# Python lets calls go.
def parts(term):
    told = []
    ahead = [term]
    while ahead:
        part = ahead.pop()
        told.append(part)
        ahead.extend(terms_within(part)[::-1])
    return told


def is_table(term):
    return term[0] in INNER_TABLES


def is_plain(term):
    return not any([is_table(part) for part in parts(term)])


def inner_rows(table):
    return table[3] if table[0] == "case" else table[2]


# Terms to be gone through are told with marks between them: where names are
# bound, and where they are loose again.
def bound_round(names, term):
    return [("bind", names), term, ("loose", names)]


def bound_rows(table):
    told = []
    for name, names, term in inner_rows(table):
        told.extend(bound_round(names, term))
    return told


def bound_within(term):
    if term[0] == "let":
        return [term[2]] + bound_round((term[1],), term[3])
    if term[0] == "case":
        return [term[1]] + bound_rows(term)
    if term[0] == "new":
        return bound_rows(term)
    return terms_within(term)


# How many times a name is bound is counted, as a term that isn't let by may
# bind a name again where it is bound.
def unbound_names(marked):
    told = {}
    many = {}
    ahead = marked[::-1]
    while ahead:
        part = ahead.pop()
        if part[0] in ("bind", "loose"):
            for name in part[1]:
                many[name] = many.get(name, 0) + (1 if part[0] == "bind" else -1)
        elif part[0] != "name":
            ahead.extend(bound_within(part)[::-1])
        elif many.get(part[1], 0) == 0:
            told[part[1]] = True
    return tuple(told)


def free_names(term):
    return unbound_names([term])


def taken_names(table):
    return unbound_names(bound_rows(table))


def inner_tables(program):
    told = []
    for row, kind, table in numbered_tables(program):
        ahead = len(told)
        for name, term in table[-1]:
            for part in parts(term):
                if is_table(part):
                    told.append(((row, len(told) - ahead), part))
    return told


def is_flat(program):
    return not inner_tables(program)


def rows_with(rows, terms):
    return tuple([(name, names, term) for (name, names, old), term in zip(rows, terms)])


# The term with others in the place of those that stand right in it.
def with_terms(term, terms):
    word = term[0]
    if word in ("op", "let"):
        return (word, term[1]) + tuple(terms)
    if word == "zero":
        return (word,) + tuple(terms)
    if word == "make":
        return (word, term[1], tuple(terms))
    if word == "ask":
        return (word, terms[0], term[2], tuple(terms[1:]))
    if word == "case":
        return (word, terms[0], term[2], rows_with(term[3], terms[1:]))
    if word == "new":
        return (word, term[1], rows_with(term[2], terms))
    return term


# A term made anew from within. The scope is handed inward: enter tells, by a
# part and its scope, the terms right in it that are gone into, with their
# scopes; build makes the new part by the part, its scope and these made anew.
def remade(term, scope, enter, build):
    done = []
    ahead = [(term, scope, None)]
    while ahead:
        part, around, many = ahead.pop()
        if many is None:
            inside = enter(part, around)
            ahead.append((part, around, len(inside)))
            ahead.extend([(one, within, None) for one, within in inside[::-1]])
        else:
            terms = [done.pop() for k in range(many)][::-1]
            done.append(build(part, around, terms))
    return done.pop()


# A placed term is one whose inner tables bear two things more: their places
# and the names they take. So a table that runs tells its place by itself.
def placed_term(term, row, first):
    number = first
    done = []
    ahead = [(term, None)]
    while ahead:
        part, place = ahead.pop()
        if place is None:
            ahead.append((part, (row, number)))
            ahead.extend([(one, None) for one in terms_within(part)[::-1]])
            number = number + (1 if is_table(part) else 0)
        else:
            made = with_terms(part, [done.pop() for one in terms_within(part)][::-1])
            done.append(made + (place, taken_names(part)) if is_table(part) else made)
    return (done.pop(), number)


def placed_table(table, row):
    number = 0
    rows = []
    for name, term in table[-1]:
        placed, number = placed_term(term, row, number)
        rows.append((name, placed))
    return table[:-1] + (tuple(rows),)


def placed_program(program):
    kinds = []
    for row, kind in numbered_kinds(program):
        tables = [placed_table(table, number) for number, table in enumerate(kind[3], start=row + 1)]
        kinds.append(kind[:3] + (tuple(tables),))
    return tuple(kinds)


def place_of(table):
    return table[-2]


def names_taken_by(table):
    return table[-1]
