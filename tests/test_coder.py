import random
import unittest

import longer
import programs
from coding import OtherMachine, check_form
from sideturn.coder import code_of
from sideturn.errors import NoTerm
from sideturn.lifting import lifted
from sideturn.rewriting import rewritten
from sideturn.runs import ran
from sideturn.termtexts import read_term
from sideturn.turning import turned

BASE = programs.program_of("""made list | nil | cons head number tail list
def sum to number | cons : (+ head (ask tail sum)) | nil : 0
def none to list
asked fun | self to fun | call arg number by number to number
tab inc | call : (+ arg by)
tab both f fun g fun | call : (ask g call (ask f call arg by) by) | self : (make both g f)
made pair | pair one list two fun
def add x number to number | pair : (let y (ask one sum) (zero (- x y) (let z x (+ z y)) (ask two call x y)))
asked no""")


def followed(code, at):
    """The rows from one on, to the end or the way back, as they stand."""
    rows = []
    for row in code[0][at:]:
        rows.append(row)
        if row in (("back",), ("end",)):
            return rows


class Rows(unittest.TestCase):
    def test_terms_begin_at_row_0(self):
        for text, rows in (
            ("7", [("num", 7)]), ("(- 3 (* 4 5))", [("num", 3), ("num", 4), ("num", 5), ("op", "*"), ("op", "-")]),
            ("(make nil)", [("make", "made", "nil", 0)]),
            ("(make cons 1 (make nil))", [("num", 1), ("make", "made", "nil", 0), ("make", "made", "cons", 2)]),
            ("(make both (make inc) (make inc))", [("make", "asked", "inc", 0)] * 2 + [("make", "asked", "both", 2)]),
            ("(ask (make nil) sum)", [("make", "made", "nil", 0), ("jump", 0, 0)]),
            ("(ask (make nil) none)", [("make", "made", "nil", 0), ("jump", 1, 0)]),
            ("(ask (make pair (make nil) (make inc)) add 4)",
             [("make", "made", "nil", 0), ("make", "asked", "inc", 0), ("make", "made", "pair", 2), ("num", 4), ("jump", 2, 1)]),
            ("(ask (make inc) self)", [("make", "asked", "inc", 0), ("door", 0, 0)]),
            ("(ask (make inc) call 1 2)", [("make", "asked", "inc", 0), ("num", 1), ("num", 2), ("door", 1, 2)]),
            ("(let x 1 (let y 2 (+ y x)))", [("num", 1), ("keep",), ("num", 2), ("keep",), ("name", 1), ("name", 0), ("op", "+"),
                                             ("drop",), ("drop",)]),
            ("(+ (let x 1 x) (let y 2 y))", [("num", 1), ("keep",), ("name", 0), ("drop",), ("num", 2), ("keep",), ("name", 0),
                                             ("drop",), ("op", "+")]),
            ("(zero 1 2 3)", [("num", 1), ("zero", 4), ("num", 2), ("go", 5), ("num", 3)]),
        ):
            self.assertEqual(followed(code_of(BASE, read_term(text)), 0), rows + [("end",)], msg=text)

    def test_cells_with_the_frame_of_fields_and_params(self):
        rows, jumps, doors = code = code_of(BASE, ("num", 1))
        self.assertEqual([(name, [one for one, at in pairs]) for name, pairs in jumps],
                         [("sum", ["cons", "nil"]), ("none", []), ("add", ["pair"])])
        self.assertEqual([(name, [one for one, at in pairs]) for name, pairs in doors],
                         [("inc", ["call"]), ("both", ["call", "self"])])
        self.assertEqual(followed(code, dict(jumps[0][1])["cons"]), [("name", 0), ("name", 1), ("jump", 0, 0), ("op", "+"), ("back",)])
        self.assertEqual(followed(code, dict(jumps[0][1])["nil"]), [("num", 0), ("back",)])
        self.assertEqual(followed(code, dict(doors[0][1])["call"]), [("name", 0), ("name", 1), ("op", "+"), ("back",)])
        self.assertEqual(followed(code, dict(doors[1][1])["call"]),
                         [("name", 1), ("name", 0), ("name", 2), ("name", 3), ("door", 1, 2), ("name", 3), ("door", 1, 2), ("back",)])
        self.assertEqual(followed(code, dict(doors[1][1])["self"]),
                         [("name", 1), ("name", 0), ("make", "asked", "both", 2), ("back",)])
        at = dict(jumps[2][1])["pair"]
        self.assertEqual(followed(code, at), [
            ("name", 0), ("jump", 0, 0), ("keep",), ("name", 2), ("name", 3), ("op", "-"), ("zero", at + 14),
            ("name", 2), ("keep",), ("name", 4), ("name", 3), ("op", "+"), ("drop",), ("go", at + 18),
            ("name", 1), ("name", 2), ("name", 3), ("door", 1, 2), ("drop",), ("back",)])

    def test_a_program_without_kinds(self):
        self.assertEqual(code_of((), read_term("(+ 1 2)")), ((("num", 1), ("num", 2), ("op", "+"), ("end",)), (), ()))

    def test_terms_that_are_not_let_by(self):
        for text in ("x", "(ask (make nil) other)", "(new fun)", "(let x 1 (let x 1 x))", "(make cons 1)"):
            with self.assertRaises(NoTerm, msg=text):
                code_of(BASE, read_term(text))

    def test_deep_terms(self):
        term = ("num", 1)
        for k in range(1000):
            term = ("let", "abcdefghij"[k % 10] * (1 + k % 8), ("zero", ("num", k % 2), ("num", 1), term), ("op", "-", ("num", 1), ("num", 2)))
        check_form(self, BASE, code_of(BASE, term))

    def test_a_term_that_the_rewriting_told(self):
        program = programs.program_of("made k | c\ndef f n number to number | c : (+ n (ask (make c) f (+ n 1)))")
        term = read_term("(ask (make c) f 0)")
        for k in range(500):
            term = rewritten(program, term)[2]
        check_form(self, program, code_of(program, term))


class HeldAgainstRuns(unittest.TestCase):
    def held(self, program, term, most):
        code = code_of(program, term)
        check_form(self, program, code)
        self.assertEqual(code_of(program, term), code)
        cells, end = OtherMachine(program, code).told(most)
        self.assertEqual((end, len(cells)), ran(program, term, most))
        return end[0], len(cells)

    def test_programs_written_out(self):
        chance = random.Random(71)
        for text, terms in longer.ALL:
            flat, names = lifted(programs.program_of(text))
            kinds = [kind[1] for kind in flat]
            for term in terms:
                self.held(flat, read_term(term), 90)
                self.held(turned(flat, kinds), read_term(term), 90)
                self.held(turned(flat, chance.sample(kinds, 1)), read_term(term), 90)

    def test_programs_by_chance(self):
        chance = random.Random(72)
        seen = {}
        for k in range(200):
            grown = programs.Grown(chance, with_tables=k % 3 > 0, few_names=k % 2 > 0)
            flat, names = lifted(grown.program())
            for term in grown.asking_terms(4):
                end, steps = self.held(flat, term, 40)
                if steps > 1:
                    seen[end] = seen.get(end, 0) + 1
        self.assertGreater(min(seen.get(end, 0) for end in ("answer", "fault", "late")), 20, msg=seen)
