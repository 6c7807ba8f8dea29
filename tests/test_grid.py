import unittest

import programs
from sideturn.grid import askers_of, cell, kind_of_asker, kind_of_maker, makers_of, side_of
from sideturn.termtexts import read_term

PROGRAM = programs.program_of("\n".join((
    "made list | nil | cons head number tail list",
    "def sum to number | cons : (+ head (ask tail sum)) | nil : 0",
    "def map by fun to list | nil : (make nil)",
    "def none x number y list z fun to fun",
    "asked fun | call arg number to number | self to fun",
    "tab inc | call : (+ arg 1)",
    "tab len of list more number | self : (make inc) | call : (ask of sum)",
    "tab sum",
    "made void",
    "asked blank",
    "made alone | alone",
    "def alone self alone to alone | alone : self",
)))

CELLS = {
    ("cons", "sum"): "(+ head (ask tail sum))", ("nil", "sum"): "0", ("nil", "map"): "(make nil)",
    ("inc", "call"): "(+ arg 1)", ("len", "self"): "(make inc)", ("len", "call"): "(ask of sum)",
    ("alone", "alone"): "self",
}
MAKERS = {"nil": "list", "cons": "list", "inc": "fun", "len": "fun", "sum": "fun", "alone": "alone"}
ASKERS = {"sum": "list", "map": "list", "none": "list", "call": "fun", "self": "fun", "alone": "alone"}


class Grid(unittest.TestCase):
    def test_makers(self):
        self.assertEqual(makers_of(PROGRAM, "list"), (("nil", ()), ("cons", (("head", "number"), ("tail", "list")))))
        self.assertEqual(makers_of(PROGRAM, "fun"),
                         (("inc", ()), ("len", (("of", "list"), ("more", "number"))), ("sum", ())))
        self.assertEqual(makers_of(PROGRAM, "alone"), (("alone", ()),))

    def test_askers(self):
        self.assertEqual(askers_of(PROGRAM, "list"), (
            ("sum", (), "number"), ("map", (("by", "fun"),), "list"),
            ("none", (("x", "number"), ("y", "list"), ("z", "fun")), "fun"),
        ))
        self.assertEqual(askers_of(PROGRAM, "fun"), (("call", (("arg", "number"),), "number"), ("self", (), "fun")))
        self.assertEqual(askers_of(PROGRAM, "alone"), (("alone", (("self", "alone"),), "alone"),))

    def test_kinds_without_any(self):
        for kind in ("void", "blank"):
            self.assertEqual(makers_of(PROGRAM, kind), ())
            self.assertEqual(askers_of(PROGRAM, kind), ())

    def test_sides(self):
        for kind, side in (("list", "made"), ("fun", "asked"), ("void", "made"), ("blank", "asked"), ("alone", "made")):
            self.assertEqual(side_of(PROGRAM, kind), side)

    def test_kinds_of_makers_and_askers(self):
        for maker, kind in MAKERS.items():
            self.assertEqual(kind_of_maker(PROGRAM, maker), kind)
        for asker, kind in ASKERS.items():
            self.assertEqual(kind_of_asker(PROGRAM, asker), kind)

    def test_each_cell_and_each_that_lacks(self):
        for maker in MAKERS:
            for asker in ASKERS:
                told = CELLS.get((maker, asker))
                self.assertEqual(cell(PROGRAM, maker, asker), None if told is None else read_term(told))

    def test_the_cells_of_names_that_are_not_there(self):
        for maker, asker in (("no", "sum"), ("nil", "no"), ("no", "no"), ("sum", "nil"), ("call", "inc")):
            self.assertIs(cell(PROGRAM, maker, asker), None)

    def test_told_are_tuples(self):
        for kind in ("list", "fun", "void", "blank", "alone"):
            for told in (makers_of(PROGRAM, kind), askers_of(PROGRAM, kind)):
                self.assertIs(type(told), tuple)
                self.assertTrue(all(type(one) is tuple and type(one[1]) is tuple for one in told))
