import random
import unittest

import longer
import programs
from runner import Runner
from sideturn.errors import NoTerm
from sideturn.runs import Run, ran
from sideturn.termtexts import read_term
from sideturn.valuetexts import show_value

BASE = programs.program_of("""made list | nil | cons head number tail list | two one list other list
def sum to number | nil : 0 | cons : (+ head (ask tail sum))
def id to list | nil : (make nil) | cons : (make cons head tail)
def add x number l list to list | nil : (make cons x l) | two : (ask one add x other)
def long to number | cons : (ask tail long)
def spin to number | nil : (ask (make nil) spin)
asked fun | call arg number to number | self to fun
tab inc | call : (+ arg 1) | self : (make inc)
tab both f fun g fun | call : (ask g call (ask f call arg))
tab own n number | self : (new fun | call a : (+ n a) | self : (make inc)) | call : (case (make cons arg (make nil)) to number | cons h t : (* h n))
tab lack | self : (new fun) | call : (case (make nil) to number | cons h t : h)""")


def run_of(text, most=100):
    """All that a Run tells with each number of steps done: a list of (cells, waiting, end)."""
    run = Run(BASE, read_term(text))
    return stages_of(run, most)


def stages_of(run, most):
    told = [(run.cells(), run.waiting(), run.end())]
    while len(told) <= most and run.step():
        told.append((run.cells(), run.waiting(), run.end()))
    return told


def ends(text, program=BASE, most=2000):
    return ran(program, read_term(text), most)


class Parts(unittest.TestCase):
    def test_terms_without_steps(self):
        for text, value in (
            ("7", "7"), ("(+ 2 3)", "5"), ("(- 7 3)", "4"), ("(* 6 7)", "42"), ("(+ 999999 1)", "0"), ("(+ 999999 999999)", "999998"),
            ("(- 3 7)", "999996"), ("(- 0 999999)", "1"), ("(* 1000 1000)", "0"), ("(* 999999 999999)", "1"),
            ("(zero 0 1 2)", "1"), ("(zero 5 1 2)", "2"), ("(zero (- 3 3) (zero 1 3 4) 2)", "4"),
            ("(let x 3 (+ x x))", "6"), ("(let x 3 (let y (+ x 1) (- x y)))", "999999"), ("(let x (let x 1 (+ x 1)) (* x 3))", "6"),
            ("(+ (let x 1 x) (let x 2 x))", "3"), ("(make nil)", "nil()"), ("(make cons (+ 1 2) (make nil))", "cons(3,nil())"),
            ("(make both (make inc) (make own 4))", "[both [inc] [own 4]]"), ("(let l (make nil) (make two l l))", "two(nil(),nil())"),
        ):
            end, steps = ends(text)
            self.assertEqual((end[0], show_value(end[1]), steps), ("answer", value, 0))
            self.assertEqual(run_of(text), [([], 0, end)])

    def test_cells_by_fields_and_params(self):
        for text, value, cells in (
            ("(ask (make nil) sum)", "0", [("nil", "sum")]),
            ("(ask (make cons 3 (make cons 4 (make nil))) sum)", "7", [("cons", "sum"), ("cons", "sum"), ("nil", "sum")]),
            ("(ask (make nil) add 5 (make cons 6 (make nil)))", "cons(5,cons(6,nil()))", [("nil", "add")]),
            ("(ask (make two (make nil) (make cons 1 (make nil))) add 5 (make nil))", "cons(5,cons(1,nil()))",
             [("two", "add"), ("nil", "add")]),
            ("(ask (make inc) call 999999)", "0", [("inc", "call")]),
            ("(ask (make both (make inc) (make inc)) call 7)", "9", [("both", "call"), ("inc", "call"), ("inc", "call")]),
            ("(ask (make own 4) call 7)", "28", [("own", "call"), ("cons", (9, 1))]),
            ("(ask (make own 4) self)", "[9.0 4]", [("own", "self")]),
            ("(ask (ask (make own 4) self) call 7)", "11", [("own", "self"), ((9, 0), "call")]),
            ("(ask (ask (make own 4) self) self)", "[inc]", [("own", "self"), ((9, 0), "self")]),
        ):
            run = Run(BASE, read_term(text))
            while run.step():
                pass
            self.assertEqual((run.end()[0], show_value(run.end()[1]), run.cells()), ("answer", value, cells))

    def test_parts_are_done_from_the_left(self):
        one, two, three = "(ask (make nil) sum)", "(ask (make inc) call 0)", "(ask (make cons 0 (make nil)) id)"
        cells = {one: ("nil", "sum"), two: ("inc", "call"), three: ("cons", "id")}
        for text, order in (
            (f"(+ {one} {two})", [one, two]), (f"(* {two} {one})", [two, one]), (f"(zero {one} {two} {one})", [one, two]),
            (f"(zero {two} {one} (+ {two} {one}))", [two, two, one]), (f"(let x {two} {one})", [two, one]),
            (f"(let x {two} {three})", [two, three]), (f"(make cons {two} {three})", [two, three]),
            (f"(make two {three} (make cons {one} {three}))", [three, one, three]),
        ):
            run = Run(BASE, read_term(text))
            while run.step():
                pass
            self.assertEqual(run.cells(), [cells[part] for part in order], msg=text)
        run = Run(BASE, read_term(f"(ask (ask (make nil) id) add {two} {three})"))
        while run.step():
            pass
        self.assertEqual(run.cells(), [("nil", "id"), ("inc", "call"), ("cons", "id"), ("nil", "add")])

    def test_a_zeros_other_part_is_not_done(self):
        self.assertEqual(ends("(zero 0 1 (ask (make lack) call 1))"), (("answer", 1), 0))
        self.assertEqual(ends("(zero 1 (ask (make nil) spin) 2)"), (("answer", 2), 0))

    def test_a_lets_part_is_done_once_and_though_it_isn_t_used(self):
        self.assertEqual(ends("(let x (ask (make nil) sum) (+ x x))"), (("answer", 0), 1))
        self.assertEqual(ends("(let x (ask (make nil) sum) 5)"), (("answer", 5), 1))
        self.assertEqual(ends("(let x (ask (make nil) long) 5)"), (("fault", "nil", "long"), 1))


class Steps(unittest.TestCase):
    def test_step_by_step(self):
        sum_cell, nil_cell = ("cons", "sum"), ("nil", "sum")
        self.assertEqual(run_of("(+ 1 (ask (make cons 3 (make cons 4 (make nil))) sum))"), [
            ([], 0, None), ([sum_cell], 1, None), ([sum_cell] * 2, 2, None),
            ([sum_cell, sum_cell, nil_cell], 0, ("answer", 8)),
        ])

    def test_an_ask_waits_till_its_value_is_there_though_nothing_is_done_behind(self):
        run = Run(BASE, read_term("(ask (make nil) spin)"))
        for k in range(50):
            self.assertEqual((run.waiting(), run.end(), run.cells()), (k, None, [("nil", "spin")] * k))
            self.assertIs(run.step(), True)

    def test_values_given_back_no_longer_wait(self):
        told = run_of("(+ (ask (make both (make inc) (make inc)) call 7) (ask (make nil) sum))")
        self.assertEqual([stage[1] for stage in told], [0, 1, 1, 0, 0])
        self.assertEqual([stage[2] for stage in told], [None] * 4 + [("answer", 9)])

    def test_cases_wait_too(self):
        self.assertEqual(run_of("(ask (make lack) call 1)"), [
            ([], 0, None), ([("lack", "call")], 1, None),
            ([("lack", "call"), ("nil", (10, 1))], 2, ("fault", "nil", (10, 1))),
        ])
        self.assertEqual([stage[1] for stage in run_of("(+ (ask (make own 4) call 7) 1)")], [0, 1, 0])

    def test_behind_the_end_no_step_is_done(self):
        for text in ("7", "(ask (make nil) sum)", "(ask (make nil) long)", "(ask (make cons 1 (make nil)) long)"):
            run = Run(BASE, read_term(text))
            while run.step():
                pass
            told = (run.cells(), run.waiting(), run.end())
            for k in range(3):
                self.assertIs(run.step(), False)
                self.assertEqual((run.cells(), run.waiting(), run.end()), told)

    def test_what_is_told_is_the_askers_own(self):
        run = Run(BASE, read_term("(ask (make cons 1 (make nil)) sum)"))
        run.step()
        run.cells().append("other")
        self.assertEqual(run.cells(), [("cons", "sum")])
        held = run.cells()
        run.step()
        self.assertEqual(held, [("cons", "sum")])

    def test_two_runs_go_by_themselves(self):
        one, other = (Run(BASE, read_term("(ask (make cons 1 (make nil)) sum)")) for k in range(2))
        one.step()
        self.assertEqual((one.cells(), other.cells()), ([("cons", "sum")], []))


GREAT = programs.program_of("""made tree | leaf | one t tree | two a tree b tree
def keep x tree y tree to fun | one : (new fun) | leaf : (let z x (new fun | call : (ask z lack) | self : (ask y keep z z)))
def lack to number
asked fun | call to number | self to fun
tab of t tree | call : (ask t lack)""")


def of_size(many):
    """The text of a tree of this size, of few within one another."""
    if many < 3:
        return "(make leaf)" if many == 1 else "(make one (make leaf))"
    half = (many - 1) // 2
    return f"(make two {of_size(half)} {of_size(many - 1 - half)})"


def of_deep(many):
    """The text of a tree of so many within one another."""
    return "(make one " * (many - 1) + "(make leaf)" + ")" * (many - 1)


class Great(unittest.TestCase):
    def great(self, text):
        run = Run(GREAT, read_term(text))
        while run.step():
            pass
        return (run.end() if run.end()[0] == "great" else run.end()[0], run.cells(), run.waiting())

    def test_a_make_of_a_size_above_200(self):
        for many in (1, 2, 3, 199, 200):
            self.assertEqual(self.great(of_size(many)), ("answer", [], 0))
        self.assertEqual(self.great(of_size(201)), (("great", "two"), [], 0))
        self.assertEqual(self.great(f"(make one {of_size(199)})"), ("answer", [], 0))
        self.assertEqual(self.great(f"(make one {of_size(200)})"), (("great", "one"), [], 0))
        self.assertEqual(self.great(f"(make of {of_size(199)})"), ("answer", [], 0))
        self.assertEqual(self.great(f"(make of {of_size(200)})"), (("great", "of"), [], 0))

    def test_a_make_of_more_than_60_within_one_another(self):
        for many in (1, 2, 59, 60):
            self.assertEqual(self.great(of_deep(many)), ("answer", [], 0))
        self.assertEqual(self.great(of_deep(61)), (("great", "one"), [], 0))
        self.assertEqual(self.great(f"(make two {of_deep(59)} (make leaf))"), ("answer", [], 0))
        self.assertEqual(self.great(f"(make two (make leaf) {of_deep(60)})"), (("great", "two"), [], 0))
        self.assertEqual(self.great(f"(make of {of_deep(60)})"), (("great", "of"), [], 0))

    def test_numbers_count_nothing(self):
        program = programs.program_of("made tree | leaf m number n number | one t tree n number | two a tree b tree")
        numbers = {"leaf": (("num", 3), ("num", 4)), "one": (("num", 5),), "two": ()}

        def with_numbers(term):
            return ("make", term[1], tuple(with_numbers(one) for one in term[2]) + numbers[term[1]])

        for text, bound in ((of_deep, 60), (of_size, 200)):
            self.assertEqual(ran(program, with_numbers(read_term(text(bound))), 0)[0][0], "answer")
            self.assertEqual(ran(program, with_numbers(read_term(text(bound + 1))), 0)[0][0], "great")

    def test_the_first_that_is_too_great_is_told(self):
        self.assertEqual(self.great(f"(make two (make leaf) (make one {of_size(200)}))"), (("great", "one"), [], 0))
        self.assertEqual(self.great(f"(make one {of_size(300)})"), (("great", "two"), [], 0))
        self.assertEqual(self.great(f"(make two {of_size(100)} {of_size(100)})"), (("great", "two"), [], 0))

    def test_each_counts_as_often_as_it_stands_there(self):
        text = "(let a {} (make two a a))"
        self.assertEqual(self.great(text.format(of_size(99))), ("answer", [], 0))
        self.assertEqual(self.great(text.format(of_size(100))), (("great", "two"), [], 0))

    def test_what_comes_ahead_is_done(self):
        lack = "(ask (make leaf) lack)"
        self.assertEqual(self.great(f"(let x {lack} (make one {of_size(200)}))"), ("fault", [("leaf", "lack")], 1))
        self.assertEqual(self.great(f"(let x (make one {of_size(200)}) {lack})"), (("great", "one"), [], 0))
        self.assertEqual(self.great(f"(let x (ask (make leaf) keep (make leaf) (make leaf)) (make one {of_size(200)}))"),
                         (("great", "one"), [("leaf", "keep")], 0))

    def test_a_new_that_is_too_great_is_told_by_its_place(self):
        text = "(let u (ask (make leaf) keep {} {}) 1)"
        cells = [("leaf", "keep")]
        for one, other in ((of_size(99), of_size(100)), (of_deep(59), "(make leaf)"), ("(make leaf)", of_deep(59))):
            self.assertEqual(self.great(text.format(one, other)), ("answer", cells, 0))
        for one, other in ((of_size(100), of_size(100)), (of_deep(60), "(make leaf)"), ("(make leaf)", of_deep(60))):
            self.assertEqual(self.great(text.format(one, other)), (("great", (1, 1)), cells, 1))


class Ends(unittest.TestCase):
    def test_faults_are_steps(self):
        for text, end, steps in (
            ("(ask (make nil) long)", ("fault", "nil", "long"), 1),
            ("(ask (make cons 1 (make cons 2 (make nil))) long)", ("fault", "nil", "long"), 3),
            ("(ask (make both (make inc) (make inc)) self)", ("fault", "both", "self"), 1),
            ("(ask (ask (make lack) self) call 1)", ("fault", (10, 0), "call"), 2),
            ("(ask (make lack) call 1)", ("fault", "nil", (10, 1)), 2),
        ):
            self.assertEqual(ends(text), (end, steps))
            run = Run(BASE, read_term(text))
            for k in range(steps):
                self.assertIsNone(run.end())
                self.assertIs(run.step(), True)
            self.assertEqual((run.end(), len(run.cells()), run.cells()[-1]), (end, steps, end[1:]))
            self.assertIs(run.step(), False)

    def test_a_fault_comes_behind_the_other_parts(self):
        self.assertEqual(ends("(ask (make cons 1 (make nil)) add (ask (make nil) sum) (ask (make nil) id))"),
                         (("fault", "cons", "add"), 3))

    def test_so_many_steps_and_no_end(self):
        text = "(ask (make cons 3 (make cons 4 (make nil))) sum)"
        for most in (0, 1, 2):
            self.assertEqual(ends(text, most=most), (("late",), most))
        for most in (3, 4, 2000):
            self.assertEqual(ends(text, most=most), (("answer", 7), 3))
        self.assertEqual(ends("7", most=0), (("answer", 7), 0))
        self.assertEqual(ends("(ask (make nil) long)", most=0), (("late",), 0))
        self.assertEqual(ends("(ask (make nil) long)", most=1), (("fault", "nil", "long"), 1))

    def test_2000_steps_one_within_another(self):
        self.assertEqual(ends("(ask (make nil) spin)"), (("late",), 2000))
        run = Run(BASE, read_term("(+ 1 (* 2 (ask (make nil) spin)))"))
        for k in range(2000):
            run.step()
        self.assertEqual((run.waiting(), run.end(), len(run.cells())), (2000, None, 2000))

    def test_deep_terms(self):
        term = ("num", 1)
        for k in range(3000):
            term = ("op", "+", ("num", 1), ("ask", ("make", "inc", ()), "call", (term,)))
        self.assertEqual(ran(BASE, term, 5000), (("answer", 6001), 3000))


class Refused(unittest.TestCase):
    def test_terms_that_are_not_let_by(self):
        for text in (
            "x", "(+ 1 x)", "(let x 1 y)", "(let x x 1)", "(let x 1 (let x 2 x))", "(make other)", "(make cons 1)",
            "(make cons (make nil) 1)", "(make nil 1)", "(ask (make nil) other)", "(ask (make nil) call 1)", "(ask 1 sum)",
            "(ask (make nil) sum 1)", "(+ 1 (make nil))", "(zero (make nil) 1 2)", "(zero 0 1 (make nil))",
            "(new fun)", "(case (make nil) to number)", "(case (make nil) to number | nil : 1)", "(new fun | call a : a)",
            "(zero 0 1 (ask (new fun) call 1))", "(ask (make both (make inc) (new fun)) call 1)",
            "(let f (new fun | self : (make inc)) 1)",
        ):
            with self.assertRaises(NoTerm, msg=text):
                Run(BASE, read_term(text))
            with self.assertRaises(NoTerm, msg=text):
                ran(BASE, read_term(text), 5)

    def test_terms_of_any_kind_are_let_by(self):
        for text in ("1", "(make nil)", "(make inc)"):
            self.assertEqual(Run(BASE, read_term(text)).end()[0], "answer")
        self.assertEqual(ran((), ("num", 3), 0), (("answer", 3), 0))


class HeldAgainstAnother(unittest.TestCase):
    def held(self, program, term, most):
        run, told = Run(program, term), Runner(program).run(term, most)
        self.assertEqual(stages_of(run, most), told)
        end = told[-1][2] or ("late",)
        for steps in (0, 1, len(told) - 2, len(told) - 1):
            if 0 <= steps < len(told):
                self.assertEqual(ran(program, term, steps), (told[steps][2] or ("late",), steps))
        return end[0], len(told) - 1

    def test_programs_written_out(self):
        for text, terms in longer.ALL:
            for term in terms:
                self.held(programs.program_of(text), read_term(term), 100)

    def test_programs_by_chance(self):
        chance = random.Random(21)
        seen = {}
        for k in range(250):
            grown = programs.Grown(chance, few_names=k % 2 > 0)
            program = grown.program()
            for term in grown.asking_terms(5):
                end, steps = self.held(program, term, 40)
                if steps > 1:
                    seen[end] = seen.get(end, 0) + 1
        self.assertGreater(min(seen.get(end, 0) for end in ("answer", "fault", "late")), 30, msg=seen)
