import random
import unittest

import longer
import programs
from counting import all_sides, owner_of, touched_by_texts
from editing import edits_by_chance
from sideturn.edits import edited
from sideturn.errors import NoEdit, NotFlat
from sideturn.net import bonds, price
from sideturn.termtexts import read_term
from sideturn.touched import touched_by
from sideturn.turning import turned

BASE = programs.program_of("""made list | nil | cons head number tail list
def sum to number | cons : (+ head (ask tail sum)) | nil : 0
def map by fun to list | nil : (make nil) | cons : (make cons (ask by call head) (ask tail map by))
asked fun | call arg number to number | twice to fun
tab inc | call : (+ arg 1) | twice : (make both (make inc) (make inc))
tab both f fun g fun | call : (ask g call (ask f call arg))
tab total l list | call : (+ arg (ask l sum))
made small | small""")
TABLES = programs.program_of("""made list | nil
def sum to number | nil : 0
asked fun | call to number
tab two | call : (ask (new fun | call : 2) call)""")


def bonds_by_texts(program, edits):
    """Counted row by row, for all sides: the same rows of a kind whatever the sides of the others."""
    told = {}
    for sides in all_sides(program):
        last = turned(program, [kind[1] for kind, side in zip(program, sides) if kind[0] != side])
        for edit in edits:
            last = edited(last, edit)
        counts = {}
        for place, (kind, side) in enumerate(zip(program, sides)):
            counts[("made", kind[1]) if side == "asked" else (kind[1], "asked")] = 0
            counts.update({(kind[1], other[1]): 0 for other, unlike in zip(program[place + 1:], sides[place + 1:]) if unlike != side})
        for key in [key for keys in touched_by_texts(program, edits, sides) for key in keys]:
            if key[0] == "cross":
                counts[key[1:] if key[1:] in counts else key[:0:-1]] += 1
            else:
                kind = owner_of(last, key)
                counts[("made", kind) if ("made", kind) in counts else (kind, "asked")] += 1
        for pair, many in counts.items():
            assert told.setdefault(pair, many) == many, (pair, many, told)
    return {pair: many for pair, many in told.items() if many > 0}


def rows(*told):
    return tuple((name, read_term(text)) for name, text in told)


class Bonds(unittest.TestCase):
    def test_own_rows_by_the_other_side(self):
        for edits, told in (
            ((), {}),
            ((("cell", "list", "nil", "sum", read_term("0")),), {}),
            ((("cell", "list", "nil", "sum", read_term("1")),), {("made", "list"): 1, ("list", "asked"): 1}),
            ((("gone", "fun", "inc", "call"),), {("made", "fun"): 1, ("fun", "asked"): 1}),
            ((("maker", "list", "one", (), rows(("sum", "1"), ("map", "(make nil)"))),), {("made", "list"): 1, ("list", "asked"): 3}),
            ((("asker", "list", "len", (), "number", rows(("nil", "1"), ("cons", "2"))),), {("made", "list"): 3, ("list", "asked"): 1}),
            ((("maker", "small", "big", (), ()),), {("made", "small"): 1, ("small", "asked"): 1}),
            ((("asker", "small", "num", (), "number", ()),), {("made", "small"): 1, ("small", "asked"): 1}),
            ((("maker", "small", "big", (), ()), ("maker", "small", "great", (), ())), {("made", "small"): 2, ("small", "asked"): 2}),
        ):
            self.assertEqual(bonds(BASE, edits), told, msg=edits)

    def test_cross_rows_either_way(self):
        to_fun = ("cell", "list", "nil", "sum", read_term("(ask (make inc) call 1)"))
        to_list = ("cell", "fun", "inc", "call", read_term("(ask (make nil) sum)"))
        to_small = ("cell", "small", "small", "num", read_term("(+ (ask (make nil) sum) (ask (make inc) call 1))"))
        num = ("asker", "small", "num", (), "number", ())
        one = {("made", "list"): 1, ("list", "asked"): 1, ("list", "fun"): 1}
        other = {("made", "fun"): 1, ("fun", "asked"): 1, ("list", "fun"): 1}
        self.assertEqual(bonds(BASE, [to_fun]), one)
        self.assertEqual(bonds(BASE, [to_list]), other)
        self.assertEqual(bonds(BASE, [to_fun, to_list]), {**one, **other, ("list", "fun"): 2})
        self.assertEqual(bonds(BASE, [to_fun, to_fun]), one)
        self.assertEqual(bonds(BASE, [num, to_small]),
                         {("made", "small"): 2, ("small", "asked"): 2, ("list", "small"): 1, ("fun", "small"): 1})
        # one kind's own uses are no cross row's, whatever its side
        self.assertEqual(bonds(BASE, [("cell", "list", "nil", "sum", read_term("(ask (make nil) sum)"))]),
                         {("made", "list"): 1, ("list", "asked"): 1})
        # as many uses of the other kind as ahead: no cross row is another one
        self.assertEqual(bonds(BASE, [("cell", "list", "cons", "map", read_term("(make cons (ask by call 1) tail)"))]),
                         {("made", "list"): 1, ("list", "asked"): 1})

    def test_kinds_told_from_either_side(self):
        edits = (("cell", "list", "nil", "sum", read_term("(ask (make inc) call 1)")), ("maker", "fun", "no", (), ()),
                 ("asker", "small", "list", (), "list", rows(("small", "(make nil)"))))
        told = bonds(BASE, edits)
        for kinds in (["list"], ["fun"], ["list", "fun"], ["list", "fun", "small"]):
            self.assertEqual(bonds(turned(BASE, kinds), edits), told)

    def test_the_dict_is_the_askers_own(self):
        edits = [("cell", "list", "nil", "sum", read_term("1"))]
        bonds(BASE, edits).clear()
        self.assertEqual(bonds(BASE, edits), {("made", "list"): 1, ("list", "asked"): 1})
        self.assertEqual(bonds((), ()), {})

    def test_refused(self):
        good, bad = ("gone", "list", "nil", "sum"), ("gone", "list", "two", "call")
        for edits in ((), (good,), (bad,), (good, bad)):
            with self.assertRaises(NotFlat) as caught:
                bonds(TABLES, edits)
            self.assertEqual(caught.exception.row, 3)
        for edits in ((bad,), (good, bad), (good, good), (("maker", "other", "c", (), ()),),
                      (("cell", "list", "nil", "sum", read_term("(case (make nil) to number)")),)):
            with self.assertRaises(NoEdit):
                bonds(BASE, edits)


class Price(unittest.TestCase):
    def test_the_bonds_that_sides_cut(self):
        net = {("made", "k"): 1, ("k", "asked"): 10, ("made", "l"): 100, ("l", "asked"): 1000, ("k", "l"): 10000}
        for sides, told in ((("made", "made"), 1010), (("asked", "asked"), 101), (("made", "asked"), 10110), (("asked", "made"), 11001)):
            self.assertEqual(price(net, ("k", "l"), sides), told)
        self.assertEqual(price({("k", "l"): 3}, ("k", "m", "l"), ("made", "asked", "made")), 0)
        self.assertEqual(price({("k", "l"): 3}, ("k", "m", "l"), ("made", "asked", "asked")), 3)
        self.assertEqual(price({}, ("k",), ("made",)), 0)
        self.assertEqual(price({}, (), ()), 0)

    def test_the_net_handed_in_stays(self):
        net = {("made", "k"): 1}
        price(net, ("k",), ("asked",))
        self.assertEqual(net, {("made", "k"): 1})


class AnyEdits(unittest.TestCase):
    def held(self, program, edits):
        net = bonds(program, edits)
        self.assertEqual(net, bonds_by_texts(program, edits))
        names = tuple(kind[1] for kind in program)
        for sides in all_sides(program):
            self.assertEqual(price(net, names, sides), sum(touched_by(program, edits, sides)))
        return net

    def test_programs_by_chance(self):
        chance = random.Random(93)
        between = 0
        for k in range(80):
            program, edits = edits_by_chance(chance)
            net = self.held(program, edits)
            between += len([pair for pair in net if "made" != pair[0] and "asked" != pair[1]])
        self.assertGreater(between, 40)

    def test_programs_written_out(self):
        chance = random.Random(94)
        for text, terms in longer.FLAT:
            program = programs.program_of(text)
            cells = [(kind[1], name, table[0]) if kind[0] == "made" else (kind[1], table[0], name)
                     for kind in program for table in kind[3] for name, term in table[-1]]
            for k in range(5):
                self.held(program, tuple(("gone",) + cell for cell in chance.sample(cells, 8)))
