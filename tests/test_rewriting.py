import random
import unittest

import longer
import programs
from runner import Rewriter
from sideturn.errors import NoTerm
from sideturn.looker import look_term
from sideturn.rewriting import rewritten, value_term
from sideturn.runs import Run
from sideturn.termtexts import read_term, show_term

BASE = programs.program_of("""made list | nil | cons head number tail list | two one list other list
def sum to number | nil : 0 | cons : (+ head (ask tail sum))
def swap to list | two : (make two other one) | nil : (make nil)
def lets x number to number | cons : (let y (+ head x) (let z (* y y) (- z (ask tail lets y)))) | nil : (let y 1 (+ y x))
def up by number to number | nil : (+ 1 (ask (make nil) up (+ by 1)))
asked fun | call arg number to number | self to fun
tab inc | call : (+ arg 1) | self : (make inc)
tab both f fun g fun | call : (ask g call (ask f call arg)) | self : (make both g f)""")


class Next(unittest.TestCase):
    def test_rewritten_to_the_next_step(self):
        for text, cell, told in (
            ("(ask (make nil) sum)", ("nil", "sum"), "0"),
            ("(ask (make cons (+ 1 2) (make nil)) sum)", ("cons", "sum"), "(+ 3 (ask (make nil) sum))"),
            ("(ask (make two (make nil) (make cons 1 (make nil))) swap)", ("two", "swap"), "(make two (make cons 1 (make nil)) (make nil))"),
            # what the run does ahead of the step is done, what it does behind stands as it was
            ("(+ (+ 1 2) (ask (make inc) call (+ 3 4)))", ("inc", "call"), "(+ 3 (+ 7 1))"),
            ("(+ (ask (make inc) call (+ 3 4)) (+ 1 2))", ("inc", "call"), "(+ (+ 7 1) (+ 1 2))"),
            ("(* (- 1 2) (+ (ask (make inc) call 0) (ask (make inc) call (+ 1 1))))", ("inc", "call"),
             "(* 999999 (+ (+ 0 1) (ask (make inc) call (+ 1 1))))"),
            ("(make cons (+ 1 2) (make cons (ask (make nil) sum) (make cons (+ 1 2) (make nil))))", ("nil", "sum"),
             "(make cons 3 (make cons 0 (make cons (+ 1 2) (make nil))))"),
            ("(ask (make both (ask (make inc) self) (make inc)) call (+ 1 2))", ("inc", "self"),
             "(ask (make both (make inc) (make inc)) call (+ 1 2))"),
            ("(ask (make both (make inc) (make inc)) call (+ 1 2))", ("both", "call"), "(ask (make inc) call (ask (make inc) call 3))"),
            ("(ask (make inc) call (ask (make inc) call 3))", ("inc", "call"), "(ask (make inc) call (+ 3 1))"),
            # a zero gives way to b or c, and its own part is done
            ("(zero (- 2 2) (ask (make nil) sum) (+ 1 2))", ("nil", "sum"), "0"),
            ("(zero 1 (+ 1 2) (+ (+ 1 2) (ask (make nil) sum)))", ("nil", "sum"), "(+ 3 0)"),
            ("(zero (ask (make nil) sum) (+ 1 2) (+ 3 4))", ("nil", "sum"), "(zero 0 (+ 1 2) (+ 3 4))"),
            ("(+ (zero 0 (zero 5 1 2) 3) (ask (make nil) sum))", ("nil", "sum"), "(+ 2 0)"),
            # a let gives way where its a is a value's term
            ("(let x (ask (make inc) call 1) (+ x (+ 1 2)))", ("inc", "call"), "(let x (+ 1 1) (+ x (+ 1 2)))"),
            ("(let x (+ 1 2) (+ (ask (make inc) call x) (* x (+ x 5))))", ("inc", "call"), "(+ (+ 3 1) (* 3 (+ 3 5)))"),
            ("(let x 1 (let y (ask (make inc) call x) (+ x y)))", ("inc", "call"), "(let y (+ 1 1) (+ 1 y))"),
            ("(let x (make nil) (let y (make two x x) (make two (ask y swap) (make two y x))))", ("two", "swap"),
             "(make two (make two (make nil) (make nil)) (make two (make two (make nil) (make nil)) (make nil)))"),
            ("(let x (let x 1 (ask (make inc) call x)) (let y x (+ x y)))", ("inc", "call"), "(let x (+ 1 1) (let y x (+ x y)))"),
            ("(let x 4 (zero (ask (make nil) sum) (let y x (+ y x)) (* x x)))", ("nil", "sum"), "(zero 0 (let y 4 (+ y 4)) (* 4 4))"),
            # lets of the cell stay
            ("(ask (make cons 3 (make nil)) lets (+ 1 1))", ("cons", "lets"), "(let y (+ 3 2) (let z (* y y) (- z (ask (make nil) lets y))))"),
            ("(let y (+ 3 2) (let z (* y y) (- z (ask (make nil) lets y))))", ("nil", "lets"), "(- 25 (let y 1 (+ y 5)))"),
        ):
            self.assertEqual(rewritten(BASE, read_term(text)), ("next", cell, read_term(told)), msg=text)

    def test_ends(self):
        for text, end in (
            ("7", ("answer", 7)), ("(+ 1 2)", ("answer", 3)), ("(let x 1 (zero x 2 (- x 2)))", ("answer", 999999)),
            ("(make nil)", ("answer", ("made", "nil", ()))),
            ("(make both (make inc) (make inc))", ("answer", ("asked", "both", (("asked", "inc", ()), ("asked", "inc", ()))))),
            ("(let l (make cons (+ 1 1) (make nil)) l)", ("answer", ("made", "cons", (2, ("made", "nil", ()))))),
            ("(ask (make cons 1 (make nil)) swap)", ("fault", "cons", "swap")),
            ("(+ 1 (ask (make two (make nil) (make nil)) up 5))", ("fault", "two", "up")),
            ("(make cons 0 " * 59 + "(make nil)" + ")" * 59, None),
            ("(make cons 0 " * 60 + "(make nil)" + ")" * 60, ("great", "cons")),
            ("(ask " + "(make cons 0 " * 60 + "(make nil)" + ")" * 60 + " swap)", ("great", "cons")),
            ("(let l " + "(make cons 0 " * 59 + "(make nil)" + ")" * 59 + " (+ (ask (make nil) sum) (ask (make cons 0 l) sum)))",
             "next"),
        ):
            told = rewritten(BASE, read_term(text))
            if end is None or end == "next":
                self.assertEqual(told[0], end or "answer")
            else:
                self.assertEqual(told, end)

    def test_a_size_of_200_and_above(self):
        half = "(make two (make nil) (make nil))"
        for k in range(5):
            half = f"(make two {half} {half})"
        text = f"(make two {half} (make cons 1 (make cons 1 {half})))"
        self.assertEqual(rewritten(BASE, read_term(text)), ("great", "two"))
        self.assertEqual(rewritten(BASE, read_term(f"(make cons 5 {half})"))[0], "answer")

    def test_refused_terms(self):
        for text in ("x", "(+ 1 x)", "(make other)", "(let x 1 (let x 1 x))", "(ask 1 sum)", "(make nil 1)", "(new fun)",
                     "(case (make nil) to number)", "(zero 1 2 (ask (new fun) call 1))", "(+ 1 (make nil))"):
            with self.assertRaises(NoTerm, msg=text):
                rewritten(BASE, read_term(text))


class ValueTerms(unittest.TestCase):
    def test_value_terms(self):
        for value, text in (
            (0, "0"), (999999, "999999"), (("made", "nil", ()), "(make nil)"), (("asked", "inc", ()), "(make inc)"),
            (("made", "cons", (3, ("made", "nil", ()))), "(make cons 3 (make nil))"),
            (("asked", "both", (("asked", "inc", ()), ("asked", "both", (("asked", "inc", ()), ("asked", "inc", ()))))),
             "(make both (make inc) (make both (make inc) (make inc)))"),
        ):
            self.assertEqual(value_term(value), read_term(text))
            self.assertEqual(rewritten(BASE, value_term(value)), ("answer", value))

    def test_deep_values(self):
        value = 1
        for k in range(3000):
            value = ("made", "cons", (value,))
        self.assertEqual(show_term(value_term(value)), "(make cons " * 3000 + "1" + ")" * 3000)


class StepByStep(unittest.TestCase):
    def held(self, program, term, most):
        """The rewriting against another, term by term, and against the run; how many steps and the end's word."""
        run, rewriter = Run(program, term), Rewriter(program)
        for k in range(most):
            told = rewritten(program, term)
            self.assertEqual(told, rewriter.rewritten(term))
            if told[0] != "next":
                break
            self.assertTrue(run.step())
            self.assertEqual(told[1], run.cells()[-1])
            self.assertEqual(look_term(program, told[2]), look_term(program, term))
            term = told[2]
        if told[0] == "fault":
            self.assertTrue(run.step())
            self.assertEqual(told[1:], run.cells()[-1])
        if told[0] != "next" or run.end():
            self.assertEqual(run.end(), rewritten(program, term))
        return len(run.cells()), told[0]

    def test_programs_written_out(self):
        for text, terms in longer.FLAT + ((longer.GROWING.split("\nasked")[0], longer.GROWING_TERMS[:9]),):
            for term in terms:
                self.held(programs.program_of(text), read_term(term), 60)
        for term in ("(ask (make cons 1 (make cons 2 (make nil))) lets 3)", "(ask (make nil) up 0)"):
            self.held(BASE, read_term(term), 60)

    def test_programs_by_chance(self):
        chance = random.Random(31)
        seen = {}
        for k in range(250):
            grown = programs.Grown(chance, with_tables=False, few_names=k % 2 > 0)
            program = grown.program()
            for term in grown.asking_terms(4):
                steps, end = self.held(program, term, 25)
                if steps > 1:
                    seen[end] = seen.get(end, 0) + 1
        self.assertGreater(min(seen.get(end, 0) for end in ("answer", "fault", "next")), 20, msg=seen)

    def test_told_terms_may_be_handed_on_whatever_their_size(self):
        term = read_term("(ask (make nil) up 0)")
        for k in range(1200):
            word, cell, term = rewritten(BASE, term)
        self.assertEqual(show_term(term), "(+ 1 " * 1200 + "(ask (make nil) up (+ 1199 1))" + ")" * 1200)
