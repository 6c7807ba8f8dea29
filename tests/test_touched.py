import random
import unittest

import longer
import programs
from counting import all_sides, touched, touched_by_texts
from editing import edits_by_chance
from sideturn.errors import NoEdit, NotFlat
from sideturn.reader import read
from sideturn.termtexts import read_term
from sideturn.touched import rows_touched, touched_by
from sideturn.turning import turned
from sideturn.writer import shown

BASE = programs.program_of("""made list | nil | cons head number tail list
def sum to number | cons : (+ head (ask tail sum)) | nil : 0
def map by fun to list | nil : (make nil) | cons : (make cons (ask by call head) (ask tail map by))
asked fun | call arg number to number | twice to fun
tab inc | call : (+ arg 1) | twice : (make both (make inc) (make inc))
tab both f fun g fun | call : (ask g call (ask f call arg))
tab total l list | call : (+ arg (ask l sum))""")
TABLES = programs.program_of("""made list | nil
def sum to number | nil : 0
asked fun | call to number
tab one | call : 1
tab two | call : (ask (new fun | call : 2) call)
tab three | call : (case (make nil) to number | nil : 3)""")


def rows(*told):
    return tuple((name, read_term(text)) for name, text in told)


class RowsTouched(unittest.TestCase):
    def held(self, one, other, many):
        one, other = programs.program_of(one), programs.program_of(other)
        self.assertEqual(rows_touched(one, other), many)
        self.assertEqual(rows_touched(other, one), many)
        self.assertEqual((rows_touched(one, one), rows_touched(other, other)), (0, 0))

    def test_each_sort_of_row(self):
        for one, other, many in (
            ("", "", 0), ("", "made k", 1), ("made k", "made k | c", 1), ("made k | c | d", "made k | d | c", 1),
            ("made k", "asked k", 1), ("made k", "made l", 2), ("made k\nasked l", "asked l\nmade k", 0),
            ("made k | c\ndef f to number", "made k | c\ndef f to number | c : 1", 1),
            ("made k\ndef f to number", "made k\ndef f to k", 1), ("made k\ndef f to number", "made k\ndef g to number", 2),
            ("made k\ndef f to number\ndef g to k", "made k\ndef g to k\ndef f to number", 0),
            ("asked k | f to number\ntab c", "asked k | f to number\ntab c | f : 1", 1),
            ("asked k\ntab c", "asked k\ntab c x k", 1), ("asked k\ntab c", "asked k\ntab d", 2),
            ("asked k\ntab c", "asked k\ntab c\ntab d", 1), ("asked k\ntab c\ntab d", "asked k", 2),
            # a def and a tab are never held against one another
            ("made k\ndef c to number\nasked l", "made k\nasked l\ntab c", 2),
            # rows in another order are another row
            ("made k | c | d\ndef f to number | c : 1 | d : 2", "made k | c | d\ndef f to number | d : 2 | c : 1", 1),
            # a kind that is turned: its own row, the defs gone, the tabs new
            ("made k | c | d\ndef f to number", "asked k | f to number\ntab c\ntab d", 4),
        ):
            self.held(one, other, many)

    def test_cross_rows(self):
        use = "made k | c\ndef f to number | c : {}\nasked l | g to number\ntab d"
        none, once, twice = (use.format(cell) for cell in ("1", "(ask (make d) g)", "(+ (ask (make d) g) (ask (make d) g))"))
        self.assertEqual(shown(programs.program_of(once)).split("\n")[-1], "cross k l 2")
        self.held(none, once, 2)
        self.held(once, twice, 2)
        self.held(none, twice, 2)
        # the cross row stays where as many parts use the other kind
        self.held(once, use.format("(+ 1 (ask (make d) g))"), 1)
        # of one side there is none
        self.held(none.replace("asked l | g to number\ntab d", "made l | d\ndef g to number"),
                  once.replace("asked l | g to number\ntab d", "made l | d\ndef g to number"), 1)
        both = "made k | c\ndef f to number | c : {}\nasked l | g to number\ntab d | g : {}"
        self.held(both.format("1", "1"), both.format("(ask (make d) g)", "(ask (make c) f)"), 4)
        self.held(both.format("(ask (make d) g)", "1"), both.format("1", "(ask (make c) f)"), 4)

    def test_inner_tables_count_as_their_texts(self):
        text = "made k | c\ndef f to number | c : (case (make c) to number | c : {})\nasked l | g to number\ntab d"
        self.held(text.format("1"), text.format("2"), 1)
        self.held(text.format("1"), text.format("(ask (make d) g)"), 2)

    def test_programs_by_chance_held_against_their_texts(self):
        chance = random.Random(91)
        for k in range(200):
            one, other = (programs.Grown(chance, with_tables=k % 2 > 0, few_names=k % 3 > 0).program() for j in range(2))
            self.assertEqual(rows_touched(one, other), len(touched(one, other)))
            names = [kind[1] for kind in one]
            self.assertEqual(rows_touched(one, one[::-1]), 0)
            if k % 2 == 0:
                for kinds in (names, names[:1], names[1:]):
                    self.assertEqual(rows_touched(one, turned(one, kinds)), len(touched(one, turned(one, kinds))))


class TouchedBy(unittest.TestCase):
    def test_each_edit_from_either_side(self):
        maker = ("maker", "list", "two", (("a", "list"), ("b", "list")), rows(("sum", "(+ (ask a sum) (ask b sum))")))
        asker = ("asker", "list", "len", (), "number", rows(("nil", "0"), ("cons", "(+ 1 (ask tail len))")))
        cell = ("cell", "list", "nil", "sum", read_term("5"))
        same = ("cell", "list", "nil", "sum", read_term("0"))
        gone = ("gone", "list", "nil", "sum")
        # the kind's row and a def; a def; a def; none; a def: or a tab; the kind's row and two tabs; a tab; none; a tab
        for edit, made, asked in ((maker, 2, 1), (asker, 1, 3), (cell, 1, 1), (same, 0, 0), (gone, 1, 1)):
            for fun in ("made", "asked"):
                self.assertEqual(touched_by(BASE, [edit], ("made", fun)), [made], msg=edit)
                self.assertEqual(touched_by(BASE, (edit,), ("asked", fun)), [asked], msg=edit)

    def test_cross_rows_of_unlike_sides(self):
        # cross list fun 1 and cross fun list 1 ahead
        uses = ("cell", "list", "nil", "sum", read_term("(ask (make inc) call 1)"))
        none = ("gone", "fun", "total", "call")
        again = ("cell", "fun", "total", "call", read_term("(+ arg (ask l sum))"))
        for sides, told in ((("made", "made"), [1, 1, 1]), (("asked", "asked"), [1, 1, 1]), (("made", "asked"), [2, 2, 2]),
                            (("asked", "made"), [2, 2, 2])):
            self.assertEqual(touched_by(BASE, (uses, none, again), sides), told)

    def test_edits_one_behind_the_other(self):
        # the second is let by behind the first alone
        edits = (("maker", "list", "one", (("n", "number"),), ()), ("cell", "list", "one", "sum", read_term("n")),
                 ("asker", "fun", "list", (), "list", rows(("inc", "(make one 1)"), ("both", "(ask f list)"))),
                 ("gone", "list", "one", "sum"), ("cell", "list", "nil", "sum", read_term("0")))
        self.assertEqual(touched_by(BASE, edits, ("made", "asked")), [1, 1, 4, 1, 0])
        self.assertEqual(touched_by(BASE, edits, ("asked", "asked")), [1, 1, 3, 1, 0])
        self.assertEqual(touched_by(BASE, edits, ("asked", "made")), [1, 1, 2, 1, 0])
        self.assertEqual(touched_by(BASE, edits, ("made", "made")), [1, 1, 1, 1, 0])
        with self.assertRaises(NoEdit):
            touched_by(BASE, edits[1:], ("made", "asked"))

    def test_no_edits(self):
        for sides in all_sides(BASE):
            self.assertEqual(touched_by(BASE, (), sides), [])
        self.assertEqual(touched_by((), [], ()), [])

    def test_a_program_that_is_not_flat(self):
        for sides in all_sides(TABLES):
            for edits in ((), (("gone", "list", "nil", "sum"),), (("gone", "list", "nil", "other"),), (("gone", "lists", "nil", "sum"),)):
                with self.assertRaises(NotFlat) as caught:
                    touched_by(TABLES, edits, sides)
                self.assertEqual(caught.exception.row, 4)

    def test_edits_that_are_refused(self):
        good = ("cell", "list", "nil", "sum", read_term("3"))
        for bad in (("gone", "lists", "nil", "sum"), ("gone", "list", "nil", "call"), ("cell", "list", "nil", "sum", read_term("x")),
                    ("cell", "list", "nil", "sum", read_term("(case (make nil) to number | nil : 1)")), ("maker", "list", "inc", (), ()),
                    ("gone", "fun", "both", "twice"), ("asker", "fun", "sum", (), "number", ())):
            for edits in ((bad,), (good, bad), (bad, good), (good, good, bad, good)):
                for sides in all_sides(BASE):
                    with self.assertRaises(NoEdit, msg=bad):
                        touched_by(BASE, edits, sides)

    def test_what_is_told_and_handed_in_is_the_askers_own(self):
        edits = [("cell", "list", "nil", "sum", read_term("3"))]
        told = touched_by(BASE, edits, ("made", "made"))
        told.append(7)
        self.assertEqual(touched_by(BASE, edits, ("made", "made")), [1])
        self.assertEqual(edits, [("cell", "list", "nil", "sum", read_term("3"))])


class AnyEdits(unittest.TestCase):
    def held(self, program, edits):
        for sides in all_sides(program):
            told = touched_by(program, edits, sides)
            self.assertEqual(told, [len(keys) for keys in touched_by_texts(program, edits, sides)])
            self.assertTrue(all(type(many) is int for many in told))

    def test_programs_by_chance(self):
        chance = random.Random(92)
        for k in range(60):
            program, edits = edits_by_chance(chance)
            self.held(program, edits)

    def test_programs_written_out(self):
        for text, terms in longer.FLAT:
            program = programs.program_of(text)
            edits = tuple(("gone", kind[1], name, table[0]) if kind[0] == "made" else ("gone", kind[1], table[0], name)
                          for kind in program for table in kind[3] for name, term in table[-1])
            self.held(program, edits[:8])


class Read(unittest.TestCase):
    def test_the_rows_counted_are_those_of_the_text(self):
        text = shown(BASE)
        self.assertEqual(read(text), BASE)
        self.assertEqual(text.split("\n")[-2:], ["cross list fun 1", "cross fun list 1"])
