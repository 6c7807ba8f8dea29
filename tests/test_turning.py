import itertools
import random
import unittest

import longer
import programs
from sideturn.errors import NoKind, NotFlat
from sideturn.grid import askers_of, cell, makers_of, side_of
from sideturn.looker import look
from sideturn.reader import read
from sideturn.turning import in_order, turned, turned_value
from sideturn.writer import shown

MADE = """made list | nil | cons head number tail list | one x number
def sum to number | cons : (+ head (ask tail sum)) | nil : 0
def add y number l list to list | one : l | nil : (make cons y l)
def none to list"""
ASKED = """asked list | sum to number | add y number l list to list | none to list
tab nil | sum : 0 | add : (make cons y l)
tab cons head number tail list | sum : (+ head (ask tail sum))
tab one x number | add : l"""
ORDERED = """made list | nil | cons head number tail list | one x number
def sum to number | nil : 0 | cons : (+ head (ask tail sum))
def add y number l list to list | nil : (make cons y l) | one : l
def none to list"""
TABLES = programs.program_of("""made list | nil | cons head number tail list
def sum to number | nil : 0
asked fun | call to number
tab one | call : 1
tab two | call : (ask (new fun | call : 2) call)
tab three | call : (case (make nil) to number | nil : 3)""")


def subsets(names):
    return [kinds for many in range(len(names) + 1) for kinds in itertools.combinations(names, many)]


def turned_by_cells(program, kinds):
    """Each turned kind by what the grid tells of it."""
    told = []
    for side, name, heads, tables in program:
        makers, askers = makers_of(program, name), askers_of(program, name)
        if name not in kinds:
            told.append((side, name, heads, tables))
        elif side == "made":
            told.append(("asked", name, askers, tuple(
                maker + (tuple((f[0], cell(program, maker[0], f[0])) for f in askers if cell(program, maker[0], f[0])),)
                for maker in makers)))
        else:
            told.append(("made", name, makers, tuple(
                asker + (tuple((c[0], cell(program, c[0], asker[0])) for c in makers if cell(program, c[0], asker[0])),)
                for asker in askers)))
    return tuple(told)


class Turned(unittest.TestCase):
    def test_from_either_side(self):
        self.assertEqual(shown(turned(read(MADE), ["list"])), ASKED)
        self.assertEqual(shown(turned(read(ASKED), ("list",))), ORDERED)

    def test_all_else_stays(self):
        program = programs.program_of(longer.FLOWS)
        told = turned(program, ["fun"])
        self.assertEqual((told[0], told[2]), (program[0], program[2]))
        self.assertEqual([side_of(told, name) for name in ("flow", "fun", "list")], ["asked", "made", "made"])
        self.assertEqual(turned(program, []), program)
        self.assertEqual(turned((), ()), ())

    def test_kinds_without_makers_or_askers(self):
        for text, told in (("made k", "asked k"), ("asked k", "made k"), ("made k | c x k", "asked k\ntab c x k"),
                           ("made k\ndef f x k to number", "asked k | f x k to number"),
                           ("asked k | f to k | g to k", "made k\ndef f to k\ndef g to k"), ("asked k\ntab c", "made k | c")):
            self.assertEqual(shown(turned(read(text), ["k"])), told)

    def test_a_kind_that_is_not_there(self):
        for kinds in (["lists"], ["nil"], ["sum"], ["number"], ["list", "other"], ("other", "list")):
            with self.assertRaises(NoKind):
                turned(read(MADE), kinds)
        with self.assertRaises(NoKind):
            turned((), ["k"])

    def test_a_program_that_is_not_flat(self):
        for kinds in ([], ["list"], ["fun"], ["list", "fun"]):
            with self.assertRaises(NotFlat) as caught:
                turned(TABLES, kinds)
            self.assertEqual(caught.exception.row, 4)
        with self.assertRaises(NotFlat) as caught:
            turned(TABLES[:1] + (TABLES[1][:3] + (TABLES[1][3][::2],),), [])
        self.assertEqual(caught.exception.row, 4)
        with self.assertRaises(NotFlat) as caught:
            turned(TABLES[1:], ["fun"])
        self.assertEqual(caught.exception.row, 2)

    def test_a_kind_that_is_not_there_comes_first(self):
        with self.assertRaises(NoKind):
            turned(TABLES, ["fun", "other"])

    def test_what_is_handed_in_stays(self):
        kinds = ["list"]
        turned(read(MADE), kinds)
        in_order(read(MADE), kinds)
        self.assertEqual(kinds, ["list"])


class InOrder(unittest.TestCase):
    def test_rows_in_the_order_of_makers_and_askers(self):
        self.assertEqual(shown(in_order(read(MADE), ["list"])), ORDERED)
        self.assertEqual(in_order(read(MADE), []), read(MADE))
        mixed = "asked k | f to k | g to k | h to k\ntab c | h : (make c) | f : (make d)\ntab d | g : (make d)"
        ordered = "asked k | f to k | g to k | h to k\ntab c | f : (make d) | h : (make c)\ntab d | g : (make d)"
        self.assertEqual(shown(in_order(read(mixed), ("k",))), ordered)
        self.assertEqual(shown(in_order(read(mixed), ())), mixed)

    def test_of_the_told_kinds_alone(self):
        text = "made k | b | c\ndef f to number | c : 1 | b : 2\nmade l | d | e\ndef g to number | e : 1 | d : 2"
        self.assertEqual(shown(in_order(read(text), ["l"])),
                         "made k | b | c\ndef f to number | c : 1 | b : 2\nmade l | d | e\ndef g to number | d : 2 | e : 1")


class AnyPrograms(unittest.TestCase):
    def test_turned_at_once_one_by_one_and_twice(self):
        chance = random.Random(41)
        texts = [programs.program_of(text) for text, terms in longer.FLAT]
        for program in texts + [programs.Grown(chance, with_tables=False).program() for k in range(60)]:
            names = [kind[1] for kind in program]
            for kinds in subsets(names):
                told = turned(program, kinds)
                self.assertTrue(look(told))
                self.assertEqual(told, turned_by_cells(program, kinds))
                one_by_one = program
                for name in chance.sample(kinds, len(kinds)):
                    one_by_one = turned(one_by_one, [name])
                self.assertEqual(one_by_one, told)
                self.assertEqual(turned(program, list(kinds[::-1])), told)
                self.assertEqual(turned(told, kinds), in_order(program, kinds))
                self.assertEqual(in_order(told, kinds), told)
                others = [name for name in names if name not in kinds]
                self.assertEqual(turned(told, others), turned(program, names))


class TurnedValues(unittest.TestCase):
    def test_the_other_word_at_things_of_turned_kinds(self):
        program = programs.program_of("made list | nil | of f fun l list\nasked fun | call to number\ntab fun n number l list")
        value = ("asked", "fun", (3, ("made", "of", (("asked", "fun", (4, ("made", "nil", ()))), ("made", "nil", ())))))
        for kinds, fun, lists in (([], "asked", "made"), (["fun"], "made", "made"), (("list",), "asked", "asked"),
                                  (["list", "fun"], "made", "asked")):
            inner = (fun, "fun", (4, (lists, "nil", ())))
            told = (fun, "fun", (3, (lists, "of", (inner, (lists, "nil", ())))))
            self.assertEqual(turned_value(program, kinds, value), told)
            self.assertEqual(turned_value(turned(program, kinds), kinds, told), value)
        self.assertEqual(turned_value(program, ["fun"], 7), 7)

    def test_deep_values(self):
        program = read("made k | c x k | d")
        value = ("made", "d", ())
        for k in range(2000):
            value = ("made", "c", (value,))
        told = turned_value(program, ["k"], value)
        for k in range(2000):
            self.assertEqual(told[:2], ("asked", "c"))
            told = told[2][0]
        self.assertEqual(told, ("asked", "d", ()))
