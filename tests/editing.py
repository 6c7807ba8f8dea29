"""Edits by seeded chance, good and bad, and edits done once more on the grid, for the tests."""

import programs
from samples import any_term, pick
from sideturn.edits import edited


def grid_of(program):
    """Each kind as (side, name, makers, askers, cells), cells from (maker, asker) to terms."""
    told = []
    for side, name, heads, tables in program:
        if side == "made":
            askers = tuple(table[:3] for table in tables)
            cells = {(c, table[0]): term for table in tables for c, term in table[3]}
            told.append((side, name, heads, askers, cells))
        else:
            makers = tuple(table[:2] for table in tables)
            cells = {(table[0], f): term for table in tables for f, term in table[2]}
            told.append((side, name, makers, heads, cells))
    return told


def grid_edited(program, edit):
    """What grid_of tells behind an edit that is let by."""
    told = []
    for side, name, makers, askers, cells in grid_of(program):
        if name == edit[1]:
            if edit[0] == "maker":
                makers += (edit[2:4],)
                cells.update({(edit[2], f): term for f, term in edit[4]})
            elif edit[0] == "asker":
                askers += (edit[2:5],)
                cells.update({(c, edit[2]): term for c, term in edit[5]})
            elif edit[0] == "cell":
                cells[edit[2:4]] = edit[4]
            else:
                cells.pop(edit[2:4])
        told.append((side, name, makers, askers, cells))
    return told


class Editing:
    """Edits of a program that was grown: fit tells such as are let by, any such as may be refused."""

    def __init__(self, chance, grown):
        self.chance = chance
        self.grown = grown
        self.fresh = 0

    def term(self, kind, pairs):
        return self.grown.term(kind, dict(pairs), 3)

    def name(self):
        self.fresh += 1
        return "n" + "abcdefghijklmnopqrstuvwxyz"[self.fresh % 26] + "abcdefgh"[self.fresh // 26]

    def pairs(self, letter):
        return tuple((letter + "n" + "abc"[k], self.grown.kind()) for k in range(self.chance.randrange(3)))

    def cells(self, wanted):
        self.chance.shuffle(wanted)
        told = [(name, self.term(kind, pairs)) for name, pairs, kind in wanted if self.chance.randrange(3)]
        return tuple((name, term) for name, term in told if term is not None)

    def fit(self, program):
        """An edit that is let by, or None where none was found."""
        side, kind, makers, askers, cells = pick(self.chance, grid_of(program))
        sort = self.chance.randrange(6)
        if sort == 0:
            maker, fields = self.name(), self.pairs("m")
            self.grown.makers[kind] = list(makers) + [(maker, fields)]
            return ("maker", kind, maker, fields, self.cells([(f, fields + params, to) for f, params, to in askers]))
        if sort == 1:
            asker, params, result = self.name(), self.pairs("f"), self.grown.kind()
            self.grown.askers[kind] = list(askers) + [(asker, params, result)]
            return ("asker", kind, asker, params, result, self.cells([(c, fields + params, result) for c, fields in makers]))
        if sort < 4 and makers and askers:
            (maker, fields), (asker, params, result) = pick(self.chance, makers), pick(self.chance, askers)
            if {name for name, kind in fields} & {name for name, kind in params}:
                return None
            term = self.term(result, fields + params)
            return None if term is None else ("cell", kind, maker, asker, term)
        if sort == 4 and cells:
            return ("gone", kind) + pick(self.chance, sorted(cells))
        if sort == 5 and cells:
            maker, asker = pick(self.chance, sorted(cells))
            return ("cell", kind, maker, asker, cells[(maker, asker)])
        return None

    def any(self, program):
        """An edit of the form, whose names are mostly there but seldom fit."""
        grid = grid_of(program)
        kinds = [kind[1] for kind in grid]
        makers = [maker[0] for kind in grid for maker in kind[2]] + ["x"]
        askers = [asker[0] for kind in grid for asker in kind[3]] + ["x"]
        kind = pick(self.chance, kinds + kinds + ["number", "x"])
        maker, asker = pick(self.chance, makers), pick(self.chance, askers)

        def term():
            if self.chance.randrange(3):
                return self.grown.term(self.grown.kind(), {}, 2) or ("num", 1)
            return any_term(self.chance, 1)

        def rows(names):
            return tuple((pick(self.chance, names), term()) for k in range(self.chance.randrange(3)))

        fields = pick(self.chance, (self.pairs("m"), programs.any_fields(self.chance)))
        return pick(self.chance, (
            ("maker", kind, pick(self.chance, (maker, self.name())), fields, rows(askers)),
            ("asker", kind, pick(self.chance, (asker, self.name())), fields, pick(self.chance, kinds + ["number", "x"]), rows(makers)),
            ("cell", kind, maker, asker, term()), ("gone", kind, maker, asker),
        ))


def edits_by_chance(chance):
    """A flat program and edits of it, at most 8, that are let by one behind the other."""
    grown = programs.Grown(chance, with_tables=False)
    first = program = grown.program()
    editing = Editing(chance, grown)
    edits = []
    for j in range(chance.randrange(9)):
        edit = editing.fit(program)
        if edit is not None:
            program = edited(program, edit)
            edits.append(edit)
    return first, tuple(edits)
