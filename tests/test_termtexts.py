import random
import unittest

import samples
from sideturn.errors import NoText
from sideturn.termtexts import read_term, show_term

PAIRS = (
    ("x", ("name", "x")),
    ("abcdefgh", ("name", "abcdefgh")),
    ("0", ("num", 0)),
    ("7", ("num", 7)),
    ("10", ("num", 10)),
    ("999999", ("num", 999999)),
    ("(+ 1 x)", ("op", "+", ("num", 1), ("name", "x"))),
    ("(- x 1)", ("op", "-", ("name", "x"), ("num", 1))),
    ("(* 2 3)", ("op", "*", ("num", 2), ("num", 3))),
    ("(zero x 1 y)", ("zero", ("name", "x"), ("num", 1), ("name", "y"))),
    ("(let x 1 y)", ("let", "x", ("num", 1), ("name", "y"))),
    ("(make c)", ("make", "c", ())),
    ("(make c 1)", ("make", "c", (("num", 1),))),
    ("(make c 1 x (make d))", ("make", "c", (("num", 1), ("name", "x"), ("make", "d", ())))),
    ("(ask x f)", ("ask", ("name", "x"), "f", ())),
    ("(ask 1 f 2 y)", ("ask", ("num", 1), "f", (("num", 2), ("name", "y")))),
    ("(case x to k)", ("case", ("name", "x"), "k", ())),
    ("(case x to number | c : 1)", ("case", ("name", "x"), "number", (("c", (), ("num", 1)),))),
    (
        "(case (make c) to k | c a b : 1 | d : x | c y : (new k))",
        (
            "case", ("make", "c", ()), "k",
            (("c", ("a", "b"), ("num", 1)), ("d", (), ("name", "x")), ("c", ("y",), ("new", "k", ()))),
        ),
    ),
    ("(new k)", ("new", "k", ())),
    ("(new number)", ("new", "number", ())),
    ("(new k | f : 1)", ("new", "k", (("f", (), ("num", 1)),))),
    (
        "(new k | f x y z : (new l | g : 2) | f : 0)",
        ("new", "k", (("f", ("x", "y", "z"), ("new", "l", (("g", (), ("num", 2)),))), ("f", (), ("num", 0)))),
    ),
    ("(op name num)", None),
    ("(let name num op)", ("let", "name", ("name", "num"), ("name", "op"))),
    ("(+ (- 1 2) (* (zero 0 1 2) (let x 3 x)))", (
        "op", "+", ("op", "-", ("num", 1), ("num", 2)),
        ("op", "*", ("zero", ("num", 0), ("num", 1), ("num", 2)), ("let", "x", ("num", 3), ("name", "x"))),
    )),
)

REFUSED = (
    # no sign, or none but blanks, bars, colons and brackets
    "", " ", "  ", "\n", "|", ":", "(", ")", "()", "( )", "(())", ")(", "to", "%", "\t",
    # blanks at an end, two together, inside of a bracket
    " x", "x ", " (+ 1 2)", "(+ 1 2) ", "(+  1 2)", "(+ 1  2)", "( + 1 2)", "(+ 1 2 )", "(make c )", "( make c)",
    "(make  c)", "(make c 1 )", "(new k  | f : 1)", "(new k |  f : 1)", "(new k | f  : 1)", "(new k | f :  1)",
    "(new k | f : 1 )", "(+ ( - 1 2) 3)", "(+ (- 1 2 ) 3)", "(+ 1 (- 2 3) )",
    # no blank where one is due
    "(+1 2)", "(+ 1(- 2 3))", "(make c(make d))", "(make c)(make d)", "(make c)x", "(new k |f : 1)", "(new k| f : 1)",
    "(new k | f: 1)", "(new k | f :1)", "(makec)", "(+ 12)",
    # brackets too many or too few
    "(x)", "(1)", "((make c))", "(make c", "make c)", "make c", "(make c))", "((make c)", "(+ 1 (- 2 3)", "(+ 1 - 2 3)",
    "x)", "(x", "(+ 1 2)) ", "(make (c))", "(let (x) 1 2)", "(ask x (f))", "(new (k))", "(case x to (k))",
    # bars and colons too many or too few
    "(new k |)", "(new k | f : 1 |)", "(new | f : 1)", "(new k || f : 1)", "(new k | | f : 1)", "(new k f : 1)",
    "(new k | f 1)", "(new k | f x 1)", "(new k | f : : 1)", "(new k | f : 1 : 2)", "(new k | : 1)", "(new k | f :)",
    "(new k | f : 1 g : 2)", "(new k | f : 1 2)", "(new k :)", "(new k : 1)", "(new k : f | 1)", "(new k | f | : 1)",
    "(case x to k |)", "(case x to k c : 1)", "(case x to k | c 1)", "(case x to k | : 1)", "(case x | to k)",
    "(case x to | c : 1)", "(case x | c : 1)", "(case | c : 1)", "(+ 1 | 2)", "(make c | 1)", "(ask x | f)", "(| make c)",
    "(+ 1 : 2)", "(make c :)", "(zero 1 2 | 3)", "(let x : 1 2)",
    # words too many or too few
    "x y", "1 2", "x 1", "(+ 1)", "(+)", "(+ 1 2 3)", "(- 1)", "(* 1 2 3)", "(zero 1 2)", "(zero 1 2 3 4)", "(zero)",
    "(let x 1)", "(let x 1 2 3)", "(let)", "(make)", "(ask)", "(ask x)", "(case x to)", "(case x k)", "(case to k)",
    "(case x to k l)", "(case x y to k)", "(case)", "(case x)", "(new)", "(new k l)", "(new k l | f : 1)", "(make c) x",
    "(make c) (make d)", "(/ 1 2)", "(name x)", "(num 1)", "(op + 1 2)", "(made c)", "(def f)", "(to k)", "(x 1)",
    # a word where a name is due, a name where a word is due
    "(let 1 2 3)", "(let to 2 3)", "(let number 1 2)", "(make 1)", "(make make)", "(make number)", "(ask x 1)",
    "(ask x ask)", "(ask f x (make c) to)", "(case x to to)", "(case x to 1)", "(case x to case)", "(new 1)", "(new new)",
    "(new to)", "(case x from k)", "(case x c k)", "(new k | 1 : 2)", "(new k | f 1 : 2)", "(new k | number : 2)",
    "(new k | f to : 2)", "(new k | f number : 2)", "(new k | (make c) : 2)", "(new k | f (make c) : 2)",
    "(case number to k)", "(case x to k | c : number)", "(+ number 1)", "number", "made", "zero", "(make c to)",
    "(make c +)", "+", "(+ + +)", "(let (make c) 1 2)", "(make (make c))", "(ask (make c) (make d))",
    # names and numbers that are none
    "abcdefghi", "X", "xY", "x1", "1x", "x_y", "(make abcdefghi)", "(let abcdefghi 1 2)", "00", "01", "007", "1000000",
    "9999999", "-1", "+1", "1.5", "1_000", "0x1", "999,999", "(+ 01 2)", "(make c 1000000)", "\u0663", "\u00e4", "1" * 5000,
    # line feeds and signs that part nothing
    "x\n", "\nx", "(+ 1\n2)", "(+\n1 2)", "(make c)\n", "(make c\n)", "(+\t1 2)", "x\r", "x\ny", "[x]", "{x}", "(make c,d)",
)

# A term of each sort that holds another, and the text around this other.
AROUND = (
    (lambda t: ("op", "+", t, ("num", 1)), "(+ ", " 1)"),
    (lambda t: ("op", "*", ("num", 1), t), "(* 1 ", ")"),
    (lambda t: ("zero", ("num", 0), ("num", 1), t), "(zero 0 1 ", ")"),
    (lambda t: ("let", "x", t, ("name", "x")), "(let x ", " x)"),
    (lambda t: ("make", "c", (("num", 2), t)), "(make c 2 ", ")"),
    (lambda t: ("ask", t, "f", (("num", 3),)), "(ask ", " f 3)"),
    (lambda t: ("ask", ("name", "x"), "f", (t,)), "(ask x f ", ")"),
    (lambda t: ("case", t, "k", (("c", ("y",), ("num", 4)),)), "(case ", " to k | c y : 4)"),
    (lambda t: ("case", ("name", "x"), "k", (("c", (), t), ("d", (), ("num", 5)))), "(case x to k | c : ", " | d : 5)"),
    (lambda t: ("new", "k", (("f", ("z",), t),)), "(new k | f z : ", ")"),
)


def nested(deep, sorts):
    term, ahead, behind = ("num", 0), "", ""
    for k in range(deep):
        build, left, right = sorts[k % len(sorts)]
        term, ahead, behind = build(term), left + ahead, behind + right
    return term, ahead + "0" + behind


class Terms(unittest.TestCase):
    def assert_refused(self, text):
        with self.assertRaises(NoText, msg=repr(text)) as caught:
            read_term(text)
        self.assertEqual(caught.exception.row, 0)

    def test_each_sort_is_read_and_shown(self):
        for text, term in PAIRS:
            if term is None:
                self.assert_refused(text)
                continue
            self.assertEqual(read_term(text), term)
            self.assertEqual(show_term(term), text)

    def test_what_is_no_term_is_refused(self):
        for text in REFUSED:
            self.assert_refused(text)

    def test_each_taken_word_is_no_name_in_a_term(self):
        for word in "made asked def tab cross to number zero let make ask case new".split():
            for text in (word, f"(let {word} 1 2)", f"(make {word})", f"(ask x {word})", f"(new k | {word} : 1)",
                         f"(new k | f {word} : 1)", f"(+ 1 {word})", f"(case x to k | {word} : 1)"):
                self.assert_refused(text)

    def test_terms_within_one_another_up_to_the_bounds_and_beyond(self):
        for deep in (39, 40, 41, 81, 3000):
            for k in range(len(AROUND)):
                term, text = nested(deep, AROUND[k:k + 1])
                self.assertTrue(show_term(term) == text)
                self.assertTrue(show_term(read_term(text)) == text)
            term, text = nested(deep, AROUND)
            self.assertTrue(show_term(term) == text)
            self.assertTrue(show_term(read_term(text)) == text)
        term, text = nested(40, AROUND)
        self.assertEqual(read_term(text), term)

    def test_deep_brackets_that_lack_or_are_too_many(self):
        for deep in (40, 3000):
            text = nested(deep, AROUND)[1]
            self.assert_refused(text[:-1])
            self.assert_refused(text + ")")
            self.assert_refused("(" + text)
        self.assert_refused("(" * 30000)
        self.assert_refused(")" * 30000)
        self.assert_refused("x " * 15000)

    def test_wide_terms(self):
        numbers = tuple(("num", n) for n in range(399))
        text = "(make c " + " ".join(str(n) for n in range(399)) + ")"
        self.assertEqual(show_term(("make", "c", numbers)), text)
        self.assertEqual(read_term(text), ("make", "c", numbers))
        rows = tuple(("f", ("x",), ("num", n)) for n in range(399))
        text = "(new k" + "".join(f" | f x : {n}" for n in range(399)) + ")"
        self.assertEqual(show_term(("new", "k", rows)), text)
        self.assertEqual(read_term(text), ("new", "k", rows))

    def test_any_term_is_read_from_its_text(self):
        chance = random.Random(1)
        texts = {}
        for k in range(2000):
            term = samples.any_term(chance, 4)
            text = show_term(term)
            self.assertEqual(read_term(text), term)
            self.assertEqual(texts.setdefault(text, term), term)

    def test_a_text_with_a_sign_changed_is_refused_or_has_a_term_of_its_own(self):
        chance = random.Random(2)
        refused = 0
        for k in range(6000):
            text = show_term(samples.any_term(chance, 3))
            at = chance.randrange(len(text) + 1)
            sign = chance.choice(["", " ", "(", ")", "|", ":", "x", "0", "\n", "  ", " | ", " : ", " to "])
            text = text[:at] + sign + text[at + chance.randrange(3):]
            try:
                term = read_term(text)
            except NoText as refusal:
                refused += 1
                self.assertEqual(refusal.row, 0)
            else:
                self.assertEqual(show_term(term), text)
        self.assertTrue(2000 < refused < 6000)

    def test_terms_are_tuples_whole_numbers_and_texts_alone(self):
        ahead = [read_term(text) for text, term in PAIRS if term is not None]
        while ahead:
            thing = ahead.pop()
            self.assertIn(type(thing), (tuple, int, str))
            if type(thing) is tuple:
                ahead.extend(thing)

    def test_asked_again_the_same_is_told(self):
        for text, term in PAIRS:
            if term is not None:
                self.assertEqual(read_term(text), read_term(text))
                self.assertEqual(show_term(term), show_term(term))
