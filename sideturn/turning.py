"""Kinds turned from the one side to the other."""

from sideturn.errors import NoKind, NotFlat
from sideturn.grid import askers_in, cells_told, kind_called, kind_of_maker, makers_in
from sideturn.terms import inner_tables
from sideturn.values import number_itself, told_of

OTHER_SIDES = {"made": "asked", "asked": "made"}


def need_kinds(program, kinds):
    if any([kind_called(program, name) is None for name in kinds]):
        raise NoKind()


def need_flat(program):
    tables = inner_tables(program)
    if tables:
        place, table = tables[0]
        raise NotFlat(place[0])


def rows_of(pairs):
    return tuple([(name, term) for name, term in pairs if term is not None])


def turned_kind(kind):
    cells = dict([((maker, asker), term) for maker, asker, term in cells_told(kind)])
    makers = makers_in(kind)
    askers = askers_in(kind)
    tables = []
    if kind[0] == "made":
        for maker in makers:
            rows = rows_of([(asker[0], cells.get((maker[0], asker[0]))) for asker in askers])
            tables.append(maker + (rows,))
        return ("asked", kind[1], askers, tuple(tables))
    for asker in askers:
        rows = rows_of([(maker[0], cells.get((maker[0], asker[0]))) for maker in makers])
        tables.append(asker + (rows,))
    return ("made", kind[1], makers, tuple(tables))


def turned(program, kinds):
    need_kinds(program, kinds)
    need_flat(program)
    return tuple([turned_kind(kind) if kind[1] in kinds else kind for kind in program])


# Turned twice, the rows of a kind come in told order.
def in_order(program, kinds):
    return tuple([turned_kind(turned_kind(kind)) if kind[1] in kinds else kind for kind in program])


def turned_value(program, kinds, value):
    def turned_thing(word, name, inside):
        new_word = OTHER_SIDES[word] if kind_of_maker(program, name) in kinds else word
        return (new_word, name, tuple(inside))

    return told_of(value, number_itself, turned_thing)
