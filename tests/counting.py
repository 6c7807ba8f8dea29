"""Touched rows counted once more, by the words of the texts, for the tests."""

import itertools

from sideturn.edits import edited
from sideturn.turning import turned
from sideturn.writer import shown


def rows_of(program):
    """Each row of the text by its names; a kind's row by the kind's name from whichever side."""
    rows = {}
    for row in shown(program).split("\n") if program else []:
        words = row.split(" ")
        key = {"made": ("kind", words[1]), "asked": ("kind", words[1]), "cross": tuple(words[:3])}.get(words[0], tuple(words[:2]))
        assert key not in rows, key
        rows[key] = row
    return rows


def touched(one, other):
    """The names of all rows that are others, new or gone."""
    ahead, behind = rows_of(one), rows_of(other)
    return [key for key in {**ahead, **behind} if ahead.get(key) != behind.get(key)]


def all_sides(program):
    return list(itertools.product(("made", "asked"), repeat=len(program)))


def touched_by_texts(program, edits, sides):
    """For each edit the names of the rows that it touches."""
    program = turned(program, [kind[1] for kind, side in zip(program, sides) if kind[0] != side])
    told = []
    for edit in edits:
        behind = edited(program, edit)
        told.append(touched(program, behind))
        program = behind
    return told


def owner_of(program, key):
    """The kind whose own row it is; program one in which all heads are there."""
    for side, kind, heads, tables in program:
        if key == ("kind", kind) or key in [({"made": "def", "asked": "tab"}[side], table[0]) for table in tables]:
            return kind
    return None


def flow_faults(bonds, flow, price):
    """What is amiss with a flow, as [30] tells it."""
    faults = []
    ends = {end for pair in bonds for end in pair} | {"made", "asked"}
    for (one, other), many in flow.items():
        if (one, other) not in bonds and (other, one) not in bonds:
            faults.append("bond")
        if many < 1:
            faults.append("number")
    for (one, other), many in bonds.items():
        if flow.get((one, other), 0) + flow.get((other, one), 0) > many:
            faults.append("more")
    for end in ends - {"made", "asked"}:
        if sum(many for pair, many in flow.items() if pair[0] == end) != sum(many for pair, many in flow.items() if pair[1] == end):
            faults.append("kept")
    if any(pair[1] == "made" and many for pair, many in flow.items()):
        faults.append("into")
    if any(pair[0] == "asked" and many for pair, many in flow.items()):
        faults.append("out")
    if sum(many for pair, many in flow.items() if pair[0] == "made") != price:
        faults.append("price")
    return faults
