"""Edits of flat programs."""

from sideturn.errors import NoEdit, NoProgram
from sideturn.grid import kind_called
from sideturn.looker import look
from sideturn.terms import is_flat


def need(holds):
    if not holds:
        raise NoEdit()


def with_rows(table, rows):
    return table[:-1] + (tuple(rows),)


# A row more, called by the new head, at the end of the def or tab that each
# of its cells names.
def with_ends(tables, name, cells):
    known = [table[0] for table in tables]
    need(all([told in known for told, term in cells]))
    longer = []
    for table in tables:
        ends = [(name, term) for told, term in cells if told == table[0]]
        longer.append(with_rows(table, list(table[-1]) + ends))
    return tuple(longer)


# A maker more, or an asker; the side is that by whose kinds such heads stand
# in the kind's row and not in a table's.
def with_head(kind, side, head, cells):
    if kind[0] == side:
        return kind[:2] + (kind[2] + (head,), with_ends(kind[3], head[0], cells))
    return kind[:3] + (kind[3] + (head + (tuple(cells),),),)


def with_maker(kind, edit):
    word, name, maker, fields, cells = edit
    return with_head(kind, "made", (maker, fields), cells)


def with_asker(kind, edit):
    word, name, asker, params, result, cells = edit
    return with_head(kind, "asked", (asker, params, result), cells)


# The kind with the rows of the cell's def or tab as change tells them, by
# these rows and the cell's name there. A row of a name that isn't there is
# seen when the whole is looked through.
def with_cell_changed(kind, maker, asker, change):
    table_name, row_name = (asker, maker) if kind[0] == "made" else (maker, asker)
    need(table_name in [table[0] for table in kind[3]])
    tables = []
    for table in kind[3]:
        tables.append(with_rows(table, change(table[-1], row_name)) if table[0] == table_name else table)
    return kind[:3] + (tuple(tables),)


def with_cell(kind, edit):
    word, name, maker, asker, new_term = edit

    def put(rows, row_name):
        if row_name not in [told for told, term in rows]:
            return list(rows) + [(row_name, new_term)]
        return [(told, new_term if told == row_name else term) for told, term in rows]

    return with_cell_changed(kind, maker, asker, put)


def without_cell(kind, edit):
    word, name, maker, asker = edit

    def leave_out(rows, row_name):
        need(row_name in [told for told, term in rows])
        return [(told, term) for told, term in rows if told != row_name]

    return with_cell_changed(kind, maker, asker, leave_out)


EDITS = {
    "maker": with_maker,
    "asker": with_asker,
    "cell": with_cell,
    "gone": without_cell,
}


def need_let_by(program):
    try:
        look(program)
    except NoProgram:
        raise NoEdit() from None


def edited(program, edit):
    need(kind_called(program, edit[1]) is not None)
    changed = tuple([EDITS[edit[0]](kind, edit) if kind[1] == edit[1] else kind for kind in program])
    need_let_by(changed)
    need(is_flat(changed))
    return changed
