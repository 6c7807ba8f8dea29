"""How many rows of the text edits touch, from whichever sides."""

from sideturn.edits import edited
from sideturn.turning import turned
from sideturn.writer import crossings, rows_of_kind

TABLE_WORDS = {"made": "def", "asked": "tab"}


# The rows of a kind itself, each by the names by which it is held against
# another one.
def own_rows(kind):
    word = TABLE_WORDS[kind[0]]
    names = [("kind", kind[1])] + [(word, table[0]) for table in kind[3]]
    return dict(zip(names, rows_of_kind(kind)))


def rows_by_names(program):
    rows = {}
    for kind in program:
        rows.update(own_rows(kind))
    for kind, other, many in crossings(program):
        rows[("cross", kind, other)] = str(many)
    return rows


# How many are unlike, or in one of the two alone.
def many_unlike(one, other):
    names = list(one) + [name for name in other if name not in one]
    return len([name for name in names if one.get(name) != other.get(name)])


def rows_touched(one, other):
    return many_unlike(rows_by_names(one), rows_by_names(other))


def with_sides(program, sides):
    return turned(program, [kind[1] for kind, side in zip(program, sides) if kind[0] != side])


# The program, told from these sides, ahead of each edit and behind the last.
def stages_of(program, edits, sides):
    stages = [with_sides(program, sides)]
    for edit in edits:
        stages.append(edited(stages[-1], edit))
    return stages


def touched_by(program, edits, sides):
    stages = stages_of(program, edits, sides)
    return [rows_touched(one, other) for one, other in zip(stages, stages[1:])]
