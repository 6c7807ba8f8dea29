"""Programs read from their texts."""

from sideturn.errors import NoText
from sideturn.termtexts import items_of, kind_in, name_in, need, parted, term_in
from sideturn.writer import cross_rows


def maker_in(items):
    need(len(items) % 2 == 1)
    fields = [(name_in(field), kind_in(kind)) for field, kind in zip(items[1::2], items[2::2])]
    return (name_in(items[0]), tuple(fields))


def asker_in(items):
    need(len(items) >= 3 and items[-2] == "to")
    return maker_in(items[:-2]) + (kind_in(items[-1]),)


def cell_in(group):
    need(len(group) == 3 and group[1] == ":")
    return (name_in(group[0]), term_in(group[2]))


def cells_in(groups):
    return tuple([cell_in(group) for group in groups])


def name_of_kind(head):
    need(len(head) == 2)
    return name_in(head[1])


# Puts what a row tells to the kinds read so far, each a list of a kind's
# four things, its defs or tabs a list to which more may come.
def take_row(kinds, items):
    groups = parted(items)
    head = groups[0]
    word = head[0] if head else None
    side = kinds[-1][0] if kinds else None
    if word == "made":
        makers = tuple([maker_in(group) for group in groups[1:]])
        kinds.append([word, name_of_kind(head), makers, []])
    elif word == "asked":
        askers = tuple([asker_in(group) for group in groups[1:]])
        kinds.append([word, name_of_kind(head), askers, []])
    elif word == "def":
        need(side == "made")
        kinds[-1][3].append(asker_in(head[1:]) + (cells_in(groups[1:]),))
    elif word == "tab":
        need(side == "asked")
        kinds[-1][3].append(maker_in(head[1:]) + (cells_in(groups[1:]),))
    else:
        raise NoText(0)


def is_cross_row(row):
    return row.split(" ")[0] == "cross"


def first_cross_row(rows):
    for number, row in enumerate(rows):
        if is_cross_row(row):
            return number
    return len(rows)


def read_kinds(rows):
    kinds = []
    for number, row in enumerate(rows):
        try:
            take_row(kinds, items_of(row))
        except NoText:
            raise NoText(number) from None
    return tuple([(side, name, heads, tuple(tables)) for side, name, heads, tables in kinds])


def need_rows(rows, due, first):
    for k in range(max(len(rows), len(due))):
        if k >= len(rows) or k >= len(due) or rows[k] != due[k]:
            raise NoText(first + k)


def read(text):
    # A text without signs has no rows; split would tell one.
    rows = text.split("\n") if text else []
    first = first_cross_row(rows)
    program = read_kinds(rows[:first])
    need_rows(rows[first:], cross_rows(program), first)
    return program
