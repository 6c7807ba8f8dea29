"""Programs looked through: True, or the first thing amiss refused."""

from sideturn.errors import NoProgram, NoTerm
from sideturn.grid import numbered_kinds, numbered_tables
from sideturn.termlooker import Heads, asker_columns, kind_of_plain_term, kind_of_term, maker_columns


# Looks through makers and askers one by one, keeping those gone through.
class HeadLook:
    def __init__(self, program):
        self.known = {"number": True}
        self.makers_ahead = {}
        self.askers_ahead = {}
        for row, kind in numbered_kinds(program):
            if kind[1] in self.known:
                raise NoProgram("twice", row)
            self.known[kind[1]] = True

    def look_kind(self, row, kind):
        if kind not in self.known:
            raise NoProgram("unknown", row)

    def look_fields(self, row, fields):
        ahead = {}
        for name, kind in fields:
            if name in ahead:
                raise NoProgram("twice", row)
            ahead[name] = True
            self.look_kind(row, kind)

    def look_maker(self, row, maker):
        if maker[0] in self.makers_ahead:
            raise NoProgram("twice", row)
        self.makers_ahead[maker[0]] = True
        self.look_fields(row, maker[1])

    def look_asker(self, row, asker):
        if asker[0] in self.askers_ahead:
            raise NoProgram("twice", row)
        self.askers_ahead[asker[0]] = True
        self.look_fields(row, asker[1])
        self.look_kind(row, asker[2])


def look_heads(program):
    look_at = HeadLook(program)
    for row, kind in numbered_kinds(program):
        for head in kind[2]:
            if kind[0] == "made":
                look_at.look_maker(row, head)
            else:
                look_at.look_asker(row, head)
    for row, kind, table in numbered_tables(program):
        if kind[0] == "made":
            look_at.look_asker(row, table)
        else:
            look_at.look_maker(row, table)


def look_table(heads, row, kind, table):
    columns = maker_columns(kind, table[2]) if kind[0] == "made" else asker_columns(kind)
    own = dict(table[1])
    ahead = {}
    for name, term in table[-1]:
        if name not in columns:
            raise NoProgram("unknown", row)
        if name in ahead:
            raise NoProgram("twice", row)
        ahead[name] = True
        pairs, result = columns[name]
        if any([field in own for field, field_kind in pairs]):
            raise NoProgram("clash", row)
        bound = dict(list(table[1]) + list(pairs))
        if kind_of_term(heads, row, term, bound) != result:
            raise NoProgram("kind", row)


def look(program):
    look_heads(program)
    heads = Heads(program)
    for row, kind, table in numbered_tables(program):
        look_table(heads, row, kind, table)
    return True


def look_term(program, term):
    try:
        return kind_of_plain_term(Heads(program), term)
    except NoProgram:
        raise NoTerm() from None
