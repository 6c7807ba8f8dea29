import random
import unittest

import programs
from sideturn.reader import read
from sideturn.termtexts import read_term
from sideturn.writer import crossings, shown

LIST = ("made", "list", (("nil", ()), ("cons", (("head", "number"), ("tail", "list")))), (
    ("sum", (), "number", (("nil", ("num", 0)), ("cons", read_term("(+ head (ask tail sum))")))),
    ("map", (("by", "fun"),), "list", (
        ("cons", read_term("(make cons (ask by call head) (ask tail map by))")), ("nil", read_term("(make nil)")),
    )),
))
FUN = ("asked", "fun", (("call", (("arg", "number"),), "number"), ("self", (), "fun")), (
    ("inc", (), (("call", read_term("(+ arg 1)")),)),
    ("len", (("of", "list"),), (
        ("self", read_term("(make len (make nil))")),
        ("call", read_term("(+ (ask of sum) (ask (make nil) sum))")),
    )),
    ("none", (), ()),
))
LIST_ROWS = [
    "made list | nil | cons head number tail list",
    "def sum to number | nil : 0 | cons : (+ head (ask tail sum))",
    "def map by fun to list | cons : (make cons (ask by call head) (ask tail map by)) | nil : (make nil)",
]
FUN_ROWS = [
    "asked fun | call arg number to number | self to fun",
    "tab inc | call : (+ arg 1)",
    "tab len of list | self : (make len (make nil)) | call : (+ (ask of sum) (ask (make nil) sum))",
    "tab none",
]


def kind_of(side, name, told, term):
    """A kind with a maker and an asker of its own name, and one cell."""
    if side == "made":
        return ("made", name, ((told, ()),), ((told, (), "number", ((told, read_term(term)),)),))
    return ("asked", name, ((told, (), "number"),), ((told, (), ((told, read_term(term)),)),))


def many_crossed(kind, other):
    """Counted anew, by calls within calls."""
    tables = [table[0] for table in other[3]]
    heads = [head[0] for head in other[2]]
    makers, askers = (heads, tables) if other[0] == "made" else (tables, heads)

    def count(term):
        if term[0] in ("name", "num"):
            return 0
        if term[0] == "make":
            return (term[1] in makers) + sum(count(part) for part in term[2])
        if term[0] == "ask":
            return (term[2] in askers) + count(term[1]) + sum(count(part) for part in term[3])
        if term[0] == "case":
            return count(term[1]) + sum(count(row[2]) for row in term[3])
        if term[0] == "new":
            return sum(count(row[2]) for row in term[2])
        return sum(count(part) for part in term[1:] if isinstance(part, tuple))

    return sum(count(row[1]) for table in kind[3] for row in table[-1])


class Shown(unittest.TestCase):
    def test_the_program_without_kinds_is_the_text_without_signs(self):
        self.assertEqual(shown(()), "")
        self.assertEqual(crossings(()), [])

    def test_kinds_without_makers_askers_defs_tabs_rows(self):
        self.assertEqual(shown((("made", "k", (), ()),)), "made k")
        self.assertEqual(shown((("asked", "k", (), ()),)), "asked k")
        self.assertEqual(shown((("made", "k", (), (("f", (), "number", ()),)),)), "made k\ndef f to number")
        self.assertEqual(shown((("asked", "k", (), (("c", (), ()),)),)), "asked k\ntab c")

    def test_each_side_alone(self):
        self.assertEqual(shown((LIST,)), "\n".join(LIST_ROWS))
        self.assertEqual(shown((FUN,)), "\n".join(FUN_ROWS))

    def test_cross_rows_stand_behind_all_kinds(self):
        self.assertEqual(shown((LIST, FUN)), "\n".join(LIST_ROWS + FUN_ROWS + ["cross list fun 1", "cross fun list 4"]))
        self.assertEqual(shown((FUN, LIST)), "\n".join(FUN_ROWS + LIST_ROWS + ["cross fun list 4", "cross list fun 1"]))

    def test_any_program_has_a_text_of_its_own(self):
        chance = random.Random(4)
        texts = {}
        for k in range(400):
            program = programs.any_program(chance)
            self.assertEqual(texts.setdefault(shown(program), program), program)
            self.assertEqual(shown(program), shown(program))

    def test_deep_cells(self):
        term, text = ("num", 1), "1"
        for k in range(3000):
            term = ("make", "c", (term,))
        program = (("made", "k", (("b", ()),), (("f", (), "k", (("b", term),)),)), ("asked", "l", (), (("c", (), ()),)))
        self.assertTrue(shown(program) == "made k | b\ndef f to k | b : " + "(make c " * 3000 + "1" + ")" * 3000
                        + "\nasked l\ntab c\ncross k l 3000")


class Crossings(unittest.TestCase):
    def test_both_ways_by_order(self):
        self.assertEqual(crossings((LIST, FUN)), [("list", "fun", 1), ("fun", "list", 4)])
        self.assertEqual(crossings((FUN, LIST)), [("fun", "list", 4), ("list", "fun", 1)])

    def test_four_kinds_by_the_first_then_by_the_second(self):
        every = "(make a (make b (make c (make d (ask (ask (ask (ask x a) b) c) d)))))"
        kinds = tuple(kind_of(side, name, name, every) for name, side in zip("abcd", ("made", "asked", "made", "asked")))
        self.assertEqual(crossings(kinds), [
            ("a", "b", 2), ("a", "d", 2), ("b", "a", 2), ("b", "c", 2),
            ("c", "b", 2), ("c", "d", 2), ("d", "a", 2), ("d", "c", 2),
        ])

    def test_none_between_kinds_of_like_sides(self):
        for side in ("made", "asked"):
            self.assertEqual(crossings((kind_of(side, "k", "c", "(make d)"), kind_of(side, "l", "d", "(make c)"))), [])

    def test_nothing_crossed_is_not_told(self):
        self.assertEqual(crossings((kind_of("made", "k", "c", "1"), kind_of("asked", "l", "d", "(make d (ask x d))"))), [])

    def test_a_make_counts_by_makers_and_an_ask_by_askers_alone(self):
        other = ("asked", "l", (("f", (), "number"),), (("d", (), ()),))
        for term, many in (("(make d)", 1), ("(make f)", 0), ("(ask x f)", 1), ("(ask x d)", 0), ("(new l | f : 1)", 0),
                           ("(case x to l | d : 1)", 0), ("d", 0), ("(let d 1 d)", 0)):
            told = [("k", "l", many)] if many else []
            self.assertEqual(crossings((kind_of("made", "k", "c", term), other)), told)

    def test_parts_within_inner_tables_count(self):
        term = "(case (ask x d) to k | c : (new l | d : (make d (make d)))  | c y : (make d))".replace("  ", " ")
        self.assertEqual(crossings((kind_of("made", "k", "c", term), kind_of("asked", "l", "d", "1"))), [("k", "l", 4)])

    def test_kinds_called_alike_are_gone_through_by_their_places(self):
        one, two = kind_of("made", "k", "c", "(make d)"), kind_of("asked", "k", "d", "(make c (make c))")
        self.assertEqual(crossings((one, two)), [("k", "k", 1), ("k", "k", 2)])
        self.assertEqual(crossings((two, one)), [("k", "k", 2), ("k", "k", 1)])
        self.assertEqual(crossings((one, one, two)), [("k", "k", 1), ("k", "k", 1), ("k", "k", 2), ("k", "k", 2)])
        self.assertEqual(shown((one, two)).split("\n")[-2:], ["cross k k 1", "cross k k 2"])

    def test_a_name_told_in_two_kinds_counts_for_each(self):
        one = kind_of("made", "k", "c", "(make d (ask x d))")
        self.assertEqual(crossings((one, kind_of("asked", "l", "d", "1"), kind_of("asked", "m", "d", "1"))),
                         [("k", "l", 2), ("k", "m", 2)])

    def test_a_name_told_twice_in_one_kind_counts_once(self):
        other = ("asked", "l", (("d", (), "l"), ("d", (), "l")), (("d", (), ()), ("d", (), ())))
        self.assertEqual(crossings((kind_of("made", "k", "c", "(make d (ask x d))"), other)), [("k", "l", 2)])

    def test_cells_of_any_row_count(self):
        rows = (("c", ("make", "d", ())), ("c", ("make", "d", ())), ("unknown", ("make", "d", ())))
        one = ("made", "k", (("c", ()),), (("f", (), "l", rows), ("f", (), "l", rows)))
        self.assertEqual(crossings((one, kind_of("asked", "l", "d", "1"))), [("k", "l", 6)])

    def test_counted_anew(self):
        chance = random.Random(5)
        for k in range(300):
            program = programs.any_program(chance)
            told = [(kind[1], other[1], many_crossed(kind, other)) for kind in program for other in program
                    if kind[0] != other[0]]
            self.assertEqual(crossings(program), [one for one in told if one[2]])

    def test_each_list_is_the_askers_own(self):
        program = (LIST, FUN)
        crossings(program).clear()
        self.assertEqual(len(crossings(program)), 2)
        self.assertEqual(read(shown(program)), program)
