import random
import unittest

import programs
from reference import Reference
from sideturn.errors import NoProgram, NoTerm
from sideturn.looker import look, look_term
from sideturn.reader import read
from sideturn.termtexts import read_term
from sideturn.writer import shown

# Kinds of either side, ahead of a row that a cell of the tests stands in.
BASE = "\n".join((
    "made list | nil | cons head number tail list",
    "def sum to number | cons : (+ head (ask tail sum)) | nil : 0",
    "def add most number by fun to list",
    "asked fun | call arg number to number | self to fun",
    "tab inc | call : (+ arg 1)",
    "tab both one fun two fun | self : one | call : (ask two call (ask one call arg))",
))
ROW = 7


def cell_in(term, result="number", params="n number l list g fun"):
    """A program with this term in a cell of the text's row 7."""
    return f"{BASE}\nmade host | here u number\ndef told {params} to {result} | here : {term}"


LET_BY = (
    "", "made k", "asked k", "made k\ndef f to k", "asked k\ntab c", "made k\nasked l\nmade m",
    BASE,
    # rows in any order, some lacking
    "made k | b | c | d\ndef f to number | d : 1 | b : 2\ndef g to number | c : 1 | d : 2 | b : 3",
    "asked k | f to k | g to k | h to k\ntab c | h : (make c) | f : (make d)\ntab d",
    # kinds used ahead of being told
    "made k | c x m\ndef f y l to m | c : x\nasked l | g z k to number\nmade m",
    # names of makers, askers, kinds and values don't hinder one another
    "made k | k k k | f f k\ndef k x k to k | k : k | f : f\ndef f k number c k to number\nasked c | c c c to c\ntab c f c | c : c",
    "made k | c c k\ndef c k k to number | c : (let f 1 (case c to number | c x : (ask (make c x) c (make c k))))",
    # two fields, params of one name in unlike heads
    "made k | c x number | d x k\ndef f y number to number\ndef g y k to number",
)

LET_BY_CELLS = (
    ("n", "number"), ("u", "number"), ("l", "list"), ("g", "fun"), ("0", "number"), ("999999", "number"),
    ("(+ n 1)", "number"), ("(zero n l (make nil))", "list"), ("(zero 0 g g)", "fun"), ("(let x l x)", "list"),
    ("(let nil n (let x nil (+ nil x)))", "number"), ("(make nil)", "list"), ("(make cons n l)", "list"),
    ("(make both g (make inc))", "fun"), ("(ask l sum)", "number"), ("(ask l add n g)", "list"),
    ("(ask g call (ask l sum))", "number"), ("(case l to number)", "number"), ("(case l to fun)", "fun"), ("(new fun)", "fun"),
    ("(case l to number | cons h t : h | nil : 0)", "number"), ("(case l to list | cons h t : t)", "list"),
    ("(case l to list | cons cons nil : nil)", "list"),
    ("(new fun | self : (new fun) | call a : (+ a n))", "fun"), ("(new fun | call call : call)", "fun"),
    # the same name again where it isn't bound any more
    ("(+ (let x 1 x) (let x 2 x))", "number"), ("(let x (let x 1 x) x)", "number"),
    ("(case l to number | cons h t : h | nil : (case l to number | cons h t : h))", "number"),
    ("(+ (case l to number | cons h t : h) (case l to number | cons h t : h))", "number"),
    ("(case (case l to list | cons h t : t) to number | cons h t : h)", "number"),
    ("(new fun | call a : (case l to number | cons h t : (+ a h)) | self : (let a g a))", "fun"),
    ("(let h 1 (case l to number | cons a b : (+ a h)))", "number"),
    ("(case (make here 1) to number | here x : x)", "number"),
)

# Each word of a term, at each place at which it is told.
AMISS_IN_CELLS = (
    ("x", "number", "unknown"), ("list", "number", "unknown"), ("nil", "number", "unknown"), ("head", "number", "unknown"),
    ("told", "number", "unknown"), ("here", "number", "unknown"),
    # of another kind than the result
    ("n", "list", "kind"), ("l", "number", "kind"), ("l", "fun", "kind"), ("1", "fun", "kind"), ("(make nil)", "fun", "kind"),
    ("(let x l x)", "number", "kind"), ("(ask l sum)", "list", "kind"), ("(case l to number)", "list", "kind"),
    ("(new fun)", "list", "kind"), ("(zero 1 l l)", "number", "kind"), ("(+ 1 2)", "list", "kind"),
    # ops: a, kind, b, kind
    ("(+ x 1)", "number", "unknown"), ("(+ l 1)", "number", "kind"), ("(+ l x)", "number", "kind"),
    ("(+ 1 x)", "number", "unknown"), ("(+ 1 l)", "number", "kind"), ("(- g 1)", "number", "kind"),
    ("(* 1 (make nil))", "number", "kind"), ("(+ x l)", "number", "unknown"),
    # zero: a, kind, b, c, kind
    ("(zero x 1 2)", "number", "unknown"), ("(zero l x 2)", "number", "kind"), ("(zero l 1 2)", "number", "kind"),
    ("(zero 0 x 2)", "number", "unknown"), ("(zero 0 1 x)", "number", "unknown"), ("(zero 0 1 l)", "number", "kind"),
    ("(zero 0 l 1)", "list", "kind"), ("(zero 0 l g)", "list", "kind"), ("(zero 0 l x)", "number", "unknown"),
    # let: a, twice, b
    ("(let n x 1)", "number", "unknown"), ("(let n 1 x)", "number", "twice"), ("(let u 1 2)", "number", "twice"),
    ("(let x 1 (let x 2 x))", "number", "twice"), ("(let x 1 y)", "number", "unknown"), ("(let x x 1)", "number", "unknown"),
    ("(+ (let x 1 x) x)", "number", "unknown"), ("(let n (+ l 1) 1)", "number", "kind"), ("(let x 1 (+ x l))", "number", "kind"),
    # make: unknown, count, each part and its kind
    ("(make no)", "list", "unknown"), ("(make no x)", "list", "unknown"), ("(make list)", "list", "unknown"),
    ("(make sum)", "list", "unknown"), ("(make n)", "list", "unknown"), ("(make nil 1)", "list", "count"),
    ("(make cons)", "list", "count"), ("(make cons x)", "list", "count"), ("(make cons 1 l 2)", "list", "count"),
    ("(make cons x l)", "list", "unknown"), ("(make cons l x)", "list", "kind"), ("(make cons 1 x)", "list", "unknown"),
    ("(make cons 1 2)", "list", "kind"), ("(make both g l)", "fun", "kind"), ("(make both l x)", "fun", "kind"),
    # ask: a, unknown, count, each part and its kind
    ("(ask x sum)", "number", "unknown"), ("(ask l no)", "number", "unknown"), ("(ask l call 1)", "number", "unknown"),
    ("(ask g sum)", "number", "unknown"), ("(ask 1 sum)", "number", "unknown"), ("(ask n call x)", "number", "unknown"),
    ("(ask l nil)", "number", "unknown"), ("(ask l sum 1)", "number", "count"), ("(ask l add x)", "list", "count"),
    ("(ask l add 1 g 2)", "list", "count"), ("(ask l add x g)", "list", "unknown"), ("(ask l add l x)", "list", "kind"),
    ("(ask l add 1 x)", "list", "unknown"), ("(ask l add 1 l)", "list", "kind"), ("(ask (+ 1 l) no x)", "number", "kind"),
    ("(ask g call g)", "number", "kind"),
    # case: a, side, result, rows
    ("(case x to no)", "number", "unknown"), ("(case (+ 1 l) to no)", "number", "kind"), ("(case g to no)", "number", "side"),
    ("(case 1 to no)", "number", "side"), ("(case g to number | inc : 1)", "number", "side"),
    ("(case n to number | no : x)", "number", "side"), ("(case l to no | no : x)", "number", "unknown"),
    ("(case l to number | no : x)", "number", "unknown"), ("(case l to number | inc : 1)", "number", "unknown"),
    ("(case l to number | sum : 1)", "number", "unknown"), ("(case l to number | here x : 1)", "number", "unknown"),
    ("(case l to number | nil : 1 | nil : 2)", "number", "twice"), ("(case l to number | nil : 1 | nil y : x)", "number", "twice"),
    ("(case l to number | nil : x | nil : 2)", "number", "unknown"),
    ("(case l to number | nil y : 1)", "number", "count"), ("(case l to number | cons : 1)", "number", "count"),
    ("(case l to number | cons n : 1)", "number", "count"), ("(case l to number | cons x y z : 1)", "number", "count"),
    ("(case l to number | cons n y : x)", "number", "twice"), ("(case l to number | cons y n : x)", "number", "twice"),
    ("(case l to number | cons y y : x)", "number", "twice"), ("(case l to number | cons y l : 1)", "number", "twice"),
    ("(case l to number | cons h t : x)", "number", "unknown"), ("(case l to number | cons h t : t)", "number", "kind"),
    ("(case l to list | cons h t : h)", "list", "kind"), ("(case l to list | nil : h)", "list", "unknown"),
    ("(case l to number | cons h t : h | nil : t)", "number", "unknown"),
    ("(case l to number | cons h t : (case t to number | cons h z : 1))", "number", "twice"),
    ("(case l to number | cons h t : (let t 1 t))", "number", "twice"), ("(+ (case l to number | cons h t : h) h)", "number", "unknown"),
    ("(let h 1 (case l to number | cons h t : 1))", "number", "twice"), ("(case l to number | nil : l | no : 1)", "number", "kind"),
    # new: unknown, side, rows
    ("(new no | no : x)", "fun", "unknown"), ("(new number)", "number", "unknown"), ("(new number | call a : a)", "number", "unknown"),
    ("(new inc)", "fun", "unknown"), ("(new list | no : x)", "list", "side"), ("(new host)", "host", "side"),
    ("(new fun | no : x)", "fun", "unknown"), ("(new fun | sum : 1)", "fun", "unknown"), ("(new fun | inc : 1)", "fun", "unknown"),
    ("(new fun | self : g | self : g)", "fun", "twice"), ("(new fun | self : g | self y : x)", "fun", "twice"),
    ("(new fun | call : 1)", "fun", "count"), ("(new fun | self a : g)", "fun", "count"), ("(new fun | call n n : 1)", "fun", "count"),
    ("(new fun | call n : x)", "fun", "twice"), ("(new fun | call a : x)", "fun", "unknown"), ("(new fun | call a : g)", "fun", "kind"),
    ("(new fun | self : 1)", "fun", "kind"), ("(new fun | call a : 1 | self : a)", "fun", "unknown"),
    ("(new fun | call a : (new fun | call a : 1))", "fun", "twice"), ("(new fun | call a : (new fun | call b : 1))", "fun", "kind"), ("(new fun | call arg : (let arg 1 arg))", "fun", "twice"),
    ("(new fun | self : (new fun | call a : 1 | call b : 1))", "fun", "twice"), ("(new fun | call a : 1 | no : 1)", "fun", "unknown"),
)

# Each word of kinds, heads and rows, at each place at which it is told, and
# two things amiss of which the first is told.
AMISS = (
    # kinds
    ("made k\nmade k", "twice", 1), ("made k\nasked k", "twice", 1), ("asked l\nasked k\ntab c\nmade m\nmade k", "twice", 4),
    ("made k | c | c\nmade k", "twice", 1), ("made k | c x no\ndef f to no\nmade l\nmade l\nmade k", "twice", 3),
    ("made k\nmade k\nmade k", "twice", 1),
    # makers in a kind's row
    ("made k | c | c", "twice", 0), ("made k | c\nmade l | c", "twice", 1), ("made k | c x no | c", "unknown", 0),
    ("made k | c | d | c x no", "twice", 0), ("made k | c x number x no", "twice", 0), ("made k | c x no x k", "unknown", 0),
    ("made k | c x k y number x k", "twice", 0), ("made k | c x no", "unknown", 0), ("made k | c x c", "unknown", 0),
    ("made k | c x k y no", "unknown", 0), ("made k\ndef f to k\nmade l | c x no", "unknown", 2),
    # askers in a kind's row
    ("asked k | f to k | f to k", "twice", 0), ("asked k | f to k\nasked l | f to k", "twice", 1),
    ("asked k | f x no to k | f to k", "unknown", 0), ("asked k | f to no | f to k", "unknown", 0),
    ("asked k | f to k | f x no to no", "twice", 0), ("asked k | f x k x no to k", "twice", 0),
    ("asked k | f x no x k to k", "unknown", 0), ("asked k | f x no to k", "unknown", 0), ("asked k | f to no", "unknown", 0),
    ("asked k | f x k to no", "unknown", 0), ("asked k | f x k x k to no", "twice", 0),
    ("made k\nasked l\ntab c\nasked m | f to no", "unknown", 3),
    # all kinds' rows ahead of all defs and tabs
    ("made k\ndef f to no\nmade l | c x no", "unknown", 2), ("made k\ndef f to k\ndef f to k\nmade l | c x no", "unknown", 3),
    ("made k\ndef f to no\nasked l | g to no", "unknown", 2), ("asked k\ntab c x no\nmade l | d | d", "twice", 2),
    # heads of defs
    ("made k\ndef f to k\ndef f to k", "twice", 2), ("made k\ndef f to k\nmade l\ndef f to k", "twice", 3),
    ("made k\ndef f to k\nasked l | f to k", "twice", 1), ("asked l | f to k\nmade k\ndef f to k", "twice", 2),
    ("made k\ndef f x k x no to no", "twice", 1), ("made k\ndef f x no x k to k", "unknown", 1),
    ("made k\ndef f x no to k", "unknown", 1), ("made k\ndef f to no", "unknown", 1), ("made k\ndef f x k to no", "unknown", 1),
    ("made k\ndef f to no\ndef f to k", "unknown", 1), ("made k\ndef f to k\ndef f x no to no", "twice", 2),
    # heads of tabs
    ("asked k\ntab c\ntab c", "twice", 2), ("asked k\ntab c\nasked l\ntab c", "twice", 3), ("asked k\ntab c\nmade l | c", "twice", 1),
    ("made l | c\nasked k\ntab c", "twice", 2), ("asked k\ntab c x k x no", "twice", 1), ("asked k\ntab c x no x k", "unknown", 1),
    ("asked k\ntab c x no", "unknown", 1), ("asked k\ntab c x no\ntab c", "unknown", 1), ("asked k\ntab c\ntab c x no", "twice", 2),
    # all heads ahead of all rows
    ("made k | c\ndef f to number | no : 1\ndef f to k", "twice", 2), ("made k | c\ndef f to k | c : 1\ndef g to no", "unknown", 2),
    ("asked k | f to k\ntab c | no : 1\ntab c", "twice", 2), ("asked k | f to k\ntab c | f : x\nmade l\ndef g to no", "unknown", 3),
    # rows of defs
    ("made k | c\ndef f to number | no : x", "unknown", 1), ("made k | c\ndef f to number | f : 1", "unknown", 1),
    ("made k | c\nmade l | d\ndef f to number | c : 1", "unknown", 2), ("made k | c\ndef f to number | c : 1 | c : x", "twice", 1),
    ("made k | c\ndef f to number | c : x | c : 1", "unknown", 1), ("made k | c\ndef f to number | c : (make c) | no : 1", "kind", 1),
    ("made k | c | d\ndef f to number | d : 1 | c : 1 | d : 1", "twice", 1),
    ("made k | c x k\ndef f x number to number | c : y", "clash", 1), ("made k | c x k y k\ndef f z k y k to number | c : 1", "clash", 1),
    ("made k | c x k | d\ndef f x k to number | d : 1 | c : 1", "clash", 1), ("made k | c x k\ndef f x k to k | c : 1 | c : 1", "clash", 1),
    ("made k | d | c x k\ndef f x k to k | d : x | d : x | c : x", "twice", 1), ("made k | c x k\ndef f x k to k | no : 1 | c : x", "unknown", 1),
    ("made k | c\ndef f to k | c : 1", "kind", 1), ("made k | c x k\ndef f y number to number | c : x", "kind", 1),
    ("made k | c x k\ndef f y number to k | c : y", "kind", 1), ("made k | c x k | d\ndef f to k | d : x", "unknown", 1),
    ("made k | c\ndef f x k to k | c : x\ndef g to k | c : x", "unknown", 2), ("made k | c\ndef f to k | no : 1\ndef g to k | c : 1", "unknown", 1),
    # rows of tabs
    ("asked k | f to number\ntab c | no : x", "unknown", 1), ("asked k | f to number\ntab c | c : 1", "unknown", 1),
    ("asked k | f to k\nasked l | g to k\ntab c | f : (make c)", "unknown", 2), ("asked k | f to number\ntab c | f : 1 | f : x", "twice", 1),
    ("asked k | f to number\ntab c | f : x | f : 1", "unknown", 1), ("asked k | f to number\ntab c | f : (make c) | no : 1", "kind", 1),
    ("asked k | f x number to number\ntab c x k | f : y", "clash", 1), ("asked k | f z k y k to k\ntab c x k y k | f : 1", "clash", 1),
    ("asked k | f x k to k | g to k\ntab c x k | g : x | f : 1", "clash", 1), ("asked k | f to k\ntab c | f : 1", "kind", 1),
    ("asked k | f to k | g to number\ntab c x k | f : x | g : x", "kind", 1), ("asked k | f x k to k | g to k\ntab c | g : x", "unknown", 1),
    ("asked k | f to k\ntab c x k | f : x\ntab d | f : x", "unknown", 2), ("asked k | f to k\ntab c | no : 1\ntab d | f : 1", "unknown", 1),
    # rows in the order of the text, whatever their kinds
    ("made k | c\ndef f to k | c : 1\nasked l | g to l\ntab d | no : 1", "kind", 1),
    ("asked l | g to l\ntab d | no : 1\nmade k | c\ndef f to k | c : 1", "unknown", 1),
    ("asked l | g to l\ntab d\nmade k | c\ndef f to k\nmade m\nmade o | e\ndef h to o | e : 1", "kind", 6),
)


class Look(unittest.TestCase):
    def assert_amiss(self, text, word, row):
        program = programs.program_of(text)
        with self.assertRaises(NoProgram, msg=text) as caught:
            look(program)
        self.assertEqual((caught.exception.word, caught.exception.row), (word, row), msg=text)
        self.assertEqual(Reference(program).told(), (word, row), msg=text)

    def test_what_is_let_by(self):
        for text in LET_BY:
            self.assertIs(look(programs.program_of(text)), True, msg=text)

    def test_cells_that_are_let_by(self):
        for term, result in LET_BY_CELLS:
            self.assertIs(look(programs.program_of(cell_in(term, result))), True, msg=term)

    def test_kinds_heads_and_rows_amiss(self):
        for text, word, row in AMISS:
            self.assert_amiss(text, word, row)

    def test_terms_amiss(self):
        for term, result, word in AMISS_IN_CELLS:
            self.assert_amiss(cell_in(term, result), word, ROW)

    def test_terms_amiss_in_tabs(self):
        for term, result, word in AMISS_IN_CELLS:
            text = f"{BASE}\nasked host | told n number l list g fun to {result}\ntab here u number | told : {term}"
            if term != "(new host)":
                self.assert_amiss(text, word, ROW)

    def test_terms_amiss_within_others(self):
        for term, result, word in AMISS_IN_CELLS:
            if word != "kind":
                for around in ("(+ 1 {})", "(zero 0 1 {})", "(let q {} 1)", "(let q 1 {})", "(make cons 1 {})", "(ask {} sum)",
                               "(ask l add 1 {})", "(case {} to list)", "(case l to number | nil : {})", "(new fun | self : {})"):
                    self.assert_amiss(cell_in(around.format(term), "number"), word, ROW)

    def test_the_first_of_two_terms_amiss(self):
        for one, one_result, word in AMISS_IN_CELLS:
            for two in ("(let n 1 1)", "x", "(make cons)", "(case g to list)"):
                if word != "kind":
                    self.assert_amiss(cell_in(f"(+ {one} {two})"), word, ROW)
                    self.assert_amiss(cell_in(f"(make cons {one} {two})", "list"), word, ROW)
                    self.assert_amiss(cell_in(f"(case l to {one_result} | nil : {one} | cons h t : {two})", one_result), word, ROW)

    def test_grown_programs_are_let_by(self):
        chance = random.Random(8)
        for k in range(150):
            program = programs.Grown(chance).program()
            self.assertIs(look(program), True)
            self.assertEqual(Reference(program).told(), True)
            self.assertEqual(read(shown(program)), program)

    def test_grown_programs_with_words_changed(self):
        chance = random.Random(9)
        told = {}
        for k in range(4000):
            text = shown(programs.Grown(chance).program()).split("\ncross")[0]
            for change in range(1 + chance.randrange(2)):
                words = text.split(" ")
                at = chance.randrange(len(words))
                bare = words[at].strip("()\n")
                if bare.isalpha():
                    words[at] = words[at].replace(bare, chance.choice([word.strip("()") for word in words if "\n" not in word]))
                elif chance.randrange(2):
                    words[at:at + 1] = []
                text = " ".join(words)
            try:
                program = programs.program_of(text)
            except (ValueError, IndexError):
                continue
            wanted = Reference(program).told()
            told[wanted if wanted is True else wanted[0]] = True
            if wanted is True:
                self.assertIs(look(program), True)
            else:
                with self.assertRaises(NoProgram) as caught:
                    look(program)
                self.assertEqual((caught.exception.word, caught.exception.row), wanted, msg=text)
        self.assertEqual(set(told), {True, "twice", "unknown", "clash", "kind", "count", "side"})

    def test_programs_of_the_form_alone(self):
        chance = random.Random(10)
        for k in range(400):
            program = programs.any_program(chance)
            wanted = Reference(program).told()
            if wanted is True:
                self.assertIs(look(program), True)
            else:
                with self.assertRaises(NoProgram) as caught:
                    look(program)
                self.assertEqual((caught.exception.word, caught.exception.row), wanted)

    def test_terms_as_deep_as_the_bounds_and_beyond(self):
        for deep in (40, 81, 3000):
            for around, result in (("(+ {} 1)", "number"), ("(make cons 1 {})", "list"), ("(ask g call {})", "number"),
                                   ("(zero 0 1 {})", "number"), ("(let x {} x)", "number"), ("(case l to number | nil : {})", "number"),
                                   ("(new fun | self : {})", "fun")):
                ahead, behind = around.split("{}")
                inner = {"number": "n", "list": "l", "fun": "g"}[result]
                for core, fault in ((inner, None), ("no", "unknown"), ("(make here 1)", "kind")):
                    text = cell_in(ahead * deep + core + behind * deep, result)
                    program = programs.program_of(text)
                    if fault is None:
                        self.assertIs(look(program), True)
                    else:
                        with self.assertRaises(NoProgram) as caught:
                            look(program)
                        self.assertEqual((caught.exception.word, caught.exception.row), (fault, ROW))

    def test_the_greatest_numbers_of_the_bounds(self):
        rows = []
        for k, kind in enumerate("vwxyz"):
            side = ("made", "asked")[k % 2]
            makers = [f"{kind}m{one} a number b {kind} c v" for one in "abcde"]
            askers = [f"{kind}f{one} d number e z f {kind} to {kind}" for one in "abcde"]
            heads, tables = (makers, askers) if side == "made" else (askers, makers)
            rows.append(f"{side} {kind} | " + " | ".join(heads))
            for table in tables:
                cells = " | ".join(f"{head.split(' ')[0]} : (ask b {kind}fa (+ a d) e (make {kind}me d f c))" for head in heads)
                rows.append(("def " if side == "made" else "tab ") + table + " | " + cells)
        program = programs.program_of("\n".join(rows))
        self.assertIs(look(program), True)
        self.assertEqual(len(program), 5)

    def test_asked_again_the_same_is_told(self):
        for text, word, row in AMISS[:9]:
            self.assert_amiss(text, word, row)
            self.assert_amiss(text, word, row)


class LookTerm(unittest.TestCase):
    def setUp(self):
        self.program = programs.program_of(BASE)

    def test_the_kind_of_a_plain_closed_term(self):
        for text, kind in (
            ("0", "number"), ("999999", "number"), ("(+ 1 2)", "number"), ("(make nil)", "list"), ("(make inc)", "fun"),
            ("(make cons 1 (make nil))", "list"), ("(ask (make nil) sum)", "number"), ("(ask (make inc) self)", "fun"),
            ("(zero 1 (make nil) (make cons 2 (make nil)))", "list"), ("(let x (make inc) (make both x x))", "fun"),
            ("(ask (make nil) add 1 (make inc))", "list"), ("(let nil 1 nil)", "number"), ("(+ (let x 1 x) (let x 2 x))", "number"),
            ("(let x 1 (let y x (+ x y)))", "number"),
        ):
            self.assertEqual(look_term(self.program, read_term(text)), kind)
            self.assertEqual(look_term(self.program, read_term(text)), kind)

    def test_any_other_term_is_refused(self):
        for text in (
            # free names
            "x", "nil", "(+ 1 x)", "(let x 1 y)", "(let x x 1)", "(+ (let x 1 x) x)", "(make cons x (make nil))",
            # inner tables, also such that 9 would let by
            "(new fun)", "(case (make nil) to number)", "(case (make nil) to number | nil : 1)", "(zero 0 1 (case (make nil) to number))",
            "(ask (new fun) self)", "(let x (new fun) 1)", "(make both (make inc) (new fun))", "(zero 1 (make inc) (new fun))",
            # each word of 9
            "(make no)", "(ask (make nil) no)", "(ask (make nil) call 1)", "(ask 1 sum)", "(make cons 1)", "(make nil 1)",
            "(ask (make nil) sum 1)", "(+ 1 (make nil))", "(+ (make nil) 1)", "(zero (make nil) 1 2)", "(zero 0 1 (make nil))",
            "(let x 1 (let x 2 x))", "(make cons (make nil) (make nil))", "(make cons 1 2)", "(ask (make inc) call (make inc))",
            "(case 1 to number)", "(new list)", "(new number)", "(new no)", "(case (make nil) to no)",
        ):
            with self.assertRaises(NoTerm, msg=text) as caught:
                look_term(self.program, read_term(text))
            self.assertEqual(vars(caught.exception), {})

    def test_the_program_without_kinds(self):
        self.assertEqual(look_term((), read_term("(+ 1 (let x 2 x))")), "number")
        with self.assertRaises(NoTerm):
            look_term((), read_term("(make c)"))

    def test_deep_terms(self):
        for deep in (40, 81, 3000):
            text = "(make cons 1 " * deep + "(make nil)" + ")" * deep
            self.assertEqual(look_term(self.program, read_term(text)), "list")
            with self.assertRaises(NoTerm):
                look_term(self.program, read_term(text.replace("(make nil)", "x")))
            with self.assertRaises(NoTerm):
                look_term(self.program, read_term(text.replace("(make nil)", "(make inc)")))

    def test_grown_terms(self):
        chance = random.Random(11)
        kinds = {}
        for k in range(400):
            grown = programs.Grown(chance)
            kind = grown.kind()
            term = grown.term(kind, {}, 4)
            if term is None:
                continue
            text = str(term)
            if "('case', " in text or "('new', " in text:
                with self.assertRaises(NoTerm):
                    look_term(grown.program(), term)
            else:
                self.assertEqual(look_term(grown.program(), term), kind)
                kinds[kind] = True
        self.assertTrue(len(kinds) > 3)
