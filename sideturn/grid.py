"""The grid that a program tells, whichever side its kinds are told from."""


def makers_in(kind):
    if kind[0] == "made":
        return kind[2]
    return tuple([(table[0], table[1]) for table in kind[3]])


def askers_in(kind):
    if kind[0] == "asked":
        return kind[2]
    return tuple([(function[0], function[1], function[2]) for function in kind[3]])


# The first kind that is called so, None where there is none.
def kind_called(program, name):
    for kind in program:
        if kind[1] == name:
            return kind
    return None


def makers_of(program, name):
    kind = kind_called(program, name)
    return () if kind is None else makers_in(kind)


def askers_of(program, name):
    kind = kind_called(program, name)
    return () if kind is None else askers_in(kind)


def side_of(program, name):
    kind = kind_called(program, name)
    return None if kind is None else kind[0]


def kind_of_maker(program, maker):
    for kind in program:
        if maker in [one[0] for one in makers_in(kind)]:
            return kind[1]
    return None


def kind_of_asker(program, asker):
    for kind in program:
        if asker in [one[0] for one in askers_in(kind)]:
            return kind[1]
    return None


# A def or tab as (its name, its rows).
def tables_in(kind):
    return [(table[0], table[-1]) for table in kind[3]]


def cell(program, maker, asker):
    for kind in program:
        table_name, row_name = (asker, maker) if kind[0] == "made" else (maker, asker)
        for name, rows in tables_in(kind):
            if name == table_name:
                for told, term in rows:
                    if told == row_name:
                        return term
    return None


# Each kind with the number of its row in the text.
def numbered_kinds(program):
    numbered = []
    row = 0
    for kind in program:
        numbered.append((row, kind))
        row = row + 1 + len(kind[3])
    return numbered


# Each def and tab with the number of its row in the text, and its kind.
def numbered_tables(program):
    numbered = []
    for row, kind in numbered_kinds(program):
        for number, table in enumerate(kind[3], start=row + 1):
            numbered.append((number, kind, table))
    return numbered


# All cells of a kind as (maker, asker, term), as its defs or tabs tell them.
def cells_told(kind):
    told = []
    for name, rows in tables_in(kind):
        for row_name, term in rows:
            told.append((row_name, name, term) if kind[0] == "made" else (name, row_name, term))
    return told
