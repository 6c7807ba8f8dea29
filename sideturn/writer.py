"""Programs written as their texts."""

from sideturn.grid import askers_in, makers_in
from sideturn.terms import parts
from sideturn.termtexts import show_term


def show_fields(name, fields):
    words = [name]
    for field, kind in fields:
        words.extend([field, kind])
    return " ".join(words)


def show_maker(maker):
    return show_fields(maker[0], maker[1])


def show_asker(asker):
    return show_fields(asker[0], asker[1]) + " to " + asker[2]


def show_cells(rows):
    return [name + " : " + show_term(term) for name, term in rows]


def made_rows(kind):
    told = [" | ".join(["made " + kind[1]] + [show_maker(maker) for maker in kind[2]])]
    for function in kind[3]:
        told.append(" | ".join(["def " + show_asker(function)] + show_cells(function[3])))
    return told


def asked_rows(kind):
    told = [" | ".join(["asked " + kind[1]] + [show_asker(asker) for asker in kind[2]])]
    for table in kind[3]:
        told.append(" | ".join(["tab " + show_maker(table)] + show_cells(table[2])))
    return told


def use_of(part):
    if part[0] == "make":
        return ("make", part[1])
    if part[0] == "ask":
        return ("ask", part[2])
    return None


# How often a kind's cells make by each maker and ask by each asker.
def uses_in(kind):
    uses = {}
    for table in kind[3]:
        for name, term in table[-1]:
            for part in parts(term):
                use = use_of(part)
                if use is not None:
                    uses[use] = uses.get(use, 0) + 1
    return uses


def told_in(kind):
    told = {}
    for maker in makers_in(kind):
        told[("make", maker[0])] = True
    for asker in askers_in(kind):
        told[("ask", asker[0])] = True
    return told


# How many parts of each kind's cells make by a maker, or ask by an asker, of
# each kind. Kinds are taken as they stand, not by their names: in a program
# that isn't let by, two may be called alike and a name be told in both.
def uses_between(program):
    told = []
    names = [told_in(kind) for kind in program]
    for kind in program:
        uses = uses_in(kind)
        for other, others in zip(program, names):
            told.append((kind, other, sum([uses.get(use, 0) for use in others])))
    return told


def crossings(program):
    crossed = []
    for kind, other, many in uses_between(program):
        if kind[0] != other[0] and many > 0:
            crossed.append((kind[1], other[1], many))
    return crossed


def cross_rows(program):
    return [f"cross {kind} {other} {many}" for kind, other, many in crossings(program)]


# The rows of a kind itself: its own, its defs or tabs.
def rows_of_kind(kind):
    return made_rows(kind) if kind[0] == "made" else asked_rows(kind)


def shown(program):
    rows = []
    for kind in program:
        rows.extend(rows_of_kind(kind))
    return "\n".join(rows + cross_rows(program))
