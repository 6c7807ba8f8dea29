"""Terms, walked part by part, and the inner tables of programs."""

from sideturn.grid import numbered_tables

INNER_TABLES = ("case", "new")


# The terms that stand right in a term, in the text's order.
def terms_within(term):
    word = term[0]
    if word in ("op", "let"):
        return list(term[2:])
    if word == "zero":
        return list(term[1:])
    if word == "make":
        return list(term[2])
    if word == "ask":
        return [term[1]] + list(term[3])
    if word == "case":
        return [term[1]] + [row[2] for row in term[3]]
    if word == "new":
        return [row[2] for row in term[2]]
    return []


# A stack in the place of calls within calls: a term may be deeper than
# Python lets calls go.
def parts(term):
    told = []
    ahead = [term]
    while ahead:
        part = ahead.pop()
        told.append(part)
        ahead.extend(terms_within(part)[::-1])
    return told


def is_table(term):
    return term[0] in INNER_TABLES


def is_plain(term):
    return not any([is_table(part) for part in parts(term)])


def inner_rows(table):
    return table[3] if table[0] == "case" else table[2]


# Terms to be gone through are told with marks between them: where names are
# bound, and where they are loose again.
def bound_round(names, term):
    return [("bind", names), term, ("loose", names)]


def bound_rows(table):
    told = []
    for name, names, term in inner_rows(table):
        told.extend(bound_round(names, term))
    return told


def bound_within(term):
    if term[0] == "let":
        return [term[2]] + bound_round((term[1],), term[3])
    if term[0] == "case":
        return [term[1]] + bound_rows(term)
    if term[0] == "new":
        return bound_rows(term)
    return terms_within(term)


# How many times a name is bound is counted, as a term that isn't let by may
# bind a name again where it is bound.
def unbound_names(marked):
    told = {}
    many = {}
    ahead = marked[::-1]
    while ahead:
        part = ahead.pop()
        if part[0] in ("bind", "loose"):
            for name in part[1]:
                many[name] = many.get(name, 0) + (1 if part[0] == "bind" else -1)
        elif part[0] != "name":
            ahead.extend(bound_within(part)[::-1])
        elif many.get(part[1], 0) == 0:
            told[part[1]] = True
    return tuple(told)


def free_names(term):
    return unbound_names([term])


def taken_names(table):
    return unbound_names(bound_rows(table))


def inner_tables(program):
    told = []
    for row, kind, table in numbered_tables(program):
        ahead = len(told)
        for name, term in table[-1]:
            for part in parts(term):
                if is_table(part):
                    told.append(((row, len(told) - ahead), part))
    return told


def is_flat(program):
    return not inner_tables(program)
