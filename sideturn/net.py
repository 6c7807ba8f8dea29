"""The net of a program and a row of edits: what each choice of sides would cost."""

from sideturn.touched import many_unlike, own_rows, stages_of
from sideturn.writer import uses_between


# From each two kinds, as (one, other), to how often the one's cells use the
# other: the number of their cross row, where they have one.
def uses_by_pair(program):
    return dict([((kind[1], other[1]), many) for kind, other, many in uses_between(program)])


# From each kind to how many of its own rows the edits touch, its sides being
# those of the stages.
def own_touched(stages):
    touched = {}
    for one, other in zip(stages, stages[1:]):
        for kind, behind in zip(one, other):
            many = many_unlike(own_rows(kind), own_rows(behind))
            touched[kind[1]] = touched.get(kind[1], 0) + many
    return touched


# From each two kinds, the one ahead first, to how many of the cross rows that
# they have where they are told from unlike sides the edits touch.
def cross_touched(stages):
    touched = {}
    names = [kind[1] for kind in stages[0]]
    uses = [uses_by_pair(stage) for stage in stages]
    for place, name in enumerate(names):
        for other in names[place + 1:]:
            pairs = ((name, other), (other, name))
            touched[(name, other)] = sum([times_changed(uses, pair) for pair in pairs])
    return touched


def times_changed(uses, pair):
    return len([one for one, other in zip(uses, uses[1:]) if one[pair] != other[pair]])


# Own rows hang on their kind's side alone and uses on none: so it does to tell
# all kinds from the one side, then from the other.
def bonds(program, edits):
    told = {}
    by_askers = stages_of(program, edits, ["asked" for kind in program])
    for name, many in own_touched(by_askers).items():
        told[("made", name)] = many
    for name, many in own_touched(stages_of(program, edits, ["made" for kind in program])).items():
        told[(name, "asked")] = many
    told.update(cross_touched(by_askers))
    return dict([(pair, many) for pair, many in told.items() if many > 0])


# The ends `made` and `asked` are on their own sides: so each bond is cut by
# unlike ones.
def price(net, kinds, sides):
    side_of_end = dict(list(zip(kinds, sides)) + [("made", "made"), ("asked", "asked")])
    return sum([many for (one, other), many in net.items() if side_of_end[one] != side_of_end[other]])
