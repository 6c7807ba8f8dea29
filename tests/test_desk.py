import random
import unittest

import longer
import programs
from counting import all_sides
from editing import edits_by_chance
from sideturn.desk import answered
from sideturn.edits import edited
from sideturn.errors import NoEdit, NoKind, NoProgram, NoRow, NoTerm, NoText, NotFlat
from sideturn.lifting import lifted
from sideturn.looker import look
from sideturn.reader import read
from sideturn.runs import ran
from sideturn.termtexts import read_term, show_term
from sideturn.touched import touched_by
from sideturn.turning import turned
from sideturn.writer import shown

FLAT = """made list | nil | cons head number tail list
def sum to number | cons : (+ head (ask tail sum)) | nil : 0
def none to list
asked fun | call arg number to number
tab inc | call : (+ arg 1)
tab total l list | call : (+ arg (ask l sum))
cross fun list 1"""
TABLES = """made list | nil | cons head number tail list
def sum to number | cons : (case tail to number | cons a b : (+ a head)) | nil : (ask (make own 3) call 4)
def keep x list to fun | nil : (new fun | call y : (ask x sum))
asked fun | call arg number to number | self to fun
tab own n number | call : (ask (new fun | call x : (+ x n)) call arg) | self : (new fun | self : (make own n))
tab deep f fun | self : (ask (make deep (new fun | call y : (ask f call y))) self) | call : 1
cross list fun 2"""


class Runs(unittest.TestCase):
    def test_answers(self):
        for row, told in (
            ("run 0 7", "answer 7 after 0"), ("run 2000 999999", "answer 999999 after 0"), ("run 0 (- 0 1)", "answer 999999 after 0"),
            ("run 5 (make cons 1 (make nil))", "answer cons(1,nil()) after 0"), ("run 1 (make inc)", "answer [inc] after 0"),
            ("run 3 (make total (make cons 4 (make nil)))", "answer [total cons(4,nil())] after 0"),
            ("run 2 (ask (make cons 4 (make nil)) sum)", "answer 4 after 2"),
            ("run 2000 (ask (make total (make cons 4 (make nil))) call 1)", "answer 5 after 3"),
            ("run 10 (let x 3 (zero x 1 (* x x)))", "answer 9 after 0"),
        ):
            self.assertEqual(answered(FLAT, row), told)

    def test_faults_great_and_late(self):
        self.assertEqual(answered(FLAT, "run 1 (ask (make nil) none)"), "fault nil none after 1")
        self.assertEqual(answered(FLAT, "run 0 (ask (make nil) none)"), "late after 0")
        self.assertEqual(answered(FLAT, "run 9 (ask (ask (make cons (ask (make nil) sum) (make nil)) none) sum)"), "fault cons none after 2")
        great = "(make cons 1 " * 60 + "(make nil)" + ")" * 60
        self.assertEqual(answered(FLAT, "run 9 " + great), "great cons after 0")
        self.assertEqual(answered(FLAT, f"run 9 (let n (ask (make nil) sum) {great})"), "great cons after 1")
        spin = "made k | c\ndef f to number | c : (ask (make c) f)"
        for most in (0, 1, 9, 10, 99, 1999, 2000):
            self.assertEqual(answered(spin, f"run {most} (ask (make c) f)"), f"late after {most}")
        self.assertEqual(answered(FLAT, "run 1 (ask (make cons 4 (make nil)) sum)"), "late after 1")

    def test_places(self):
        for row, told in (
            ("run 9 (ask (make own 3) self)", "answer [4.1 3] after 1"),
            ("run 9 (ask (ask (make own 3) self) call 1)", "fault 4.1 call after 2"),
            ("run 9 (ask (make cons 1 (make nil)) sum)", "fault nil 1.0 after 2"),
            ("run 9 (ask (make cons 1 (make cons 2 (make nil))) sum)", "answer 3 after 2"),
            ("run 9 (ask (make nil) sum)", "answer 7 after 3"),
            ("run 2000 (ask (make deep (make own 1)) self)", "great deep after 59"),
            ("run 9 (ask (make nil) keep " + "(make cons 1 " * 59 + "(make nil)" + ")" * 60, "great 2.0 after 1"),
        ):
            self.assertEqual(answered(TABLES, row), told)

    def test_a_program_without_kinds(self):
        self.assertEqual(answered("", "run 0 (+ 1 2)"), "answer 3 after 0")

    def test_terms_that_are_refused(self):
        for text in (FLAT, TABLES):
            for term in ("x", "(make other)", "(ask 1 sum)", "(make nil 1)", "(let x 1 (let x 1 x))", "(+ 1 (make nil))", "(new fun)",
                         "(case (make nil) to number | nil : 1)", "(zero 0 1 (ask (new fun) call 1))", "run", "lift"):
                with self.assertRaises(NoTerm, msg=term):
                    answered(text, "run 5 " + term)


class LiftAndTurn(unittest.TestCase):
    def test_lift(self):
        for text in (FLAT, "", TABLES):
            self.assertEqual(answered(text, "lift"), shown(lifted(read(text))[0]))
        self.assertEqual(answered(FLAT, "lift"), FLAT)
        flat = read(answered(TABLES, "lift"))
        self.assertTrue(look(flat))
        self.assertEqual(ran(flat, read_term("(ask (make nil) sum)"), 9), (("answer", 7), 3))

    def test_turn(self):
        self.assertEqual(answered(FLAT, "turn list"), """asked list | sum to number | none to list
tab nil | sum : 0
tab cons head number tail list | sum : (+ head (ask tail sum))
asked fun | call arg number to number
tab inc | call : (+ arg 1)
tab total l list | call : (+ arg (ask l sum))""")
        self.assertEqual(answered(FLAT, "turn fun"), """made list | nil | cons head number tail list
def sum to number | cons : (+ head (ask tail sum)) | nil : 0
def none to list
made fun | inc | total l list
def call arg number to number | inc : (+ arg 1) | total : (+ arg (ask l sum))""")
        for row in ("turn list fun", "turn fun list"):
            self.assertEqual(answered(FLAT, row), shown(turned(read(FLAT), ["list", "fun"])))
        self.assertEqual(answered(answered(FLAT, "turn fun"), "turn fun"), FLAT)

    def test_turn_of_no_kinds(self):
        self.assertEqual(answered(FLAT, "turn"), FLAT)
        self.assertEqual(answered("", "turn"), "")
        with self.assertRaises(NotFlat) as caught:
            answered(TABLES, "turn")
        self.assertEqual(caught.exception.row, 1)

    def test_turn_refused(self):
        for row in ("turn other", "turn list other", "turn nil", "turn sum", "turn turn"):
            with self.assertRaises(NoKind, msg=row):
                answered(FLAT, row)
            with self.assertRaises(NoKind, msg=row):
                answered(TABLES, row)
        for row in ("turn list", "turn fun", "turn fun list"):
            with self.assertRaises(NotFlat, msg=row) as caught:
                answered(TABLES, row)
            self.assertEqual(caught.exception.row, 1)


class Sides(unittest.TestCase):
    def sides(self, row, edits, text=FLAT):
        """The answer's price and sides are such as the edits have, and no other sides have less."""
        words = answered(text, row).split(" ")
        program = read(text)
        self.assertEqual((words[0], words[2::2]), ("price", [kind[1] for kind in program]))
        prices = {sides: sum(touched_by(program, edits, sides)) for sides in all_sides(program)}
        self.assertEqual((words[1], prices[tuple(words[3::2])]), (str(min(prices.values())), min(prices.values())))

    def test_each_sort_of_edit(self):
        for row, edit in (
            ("maker list one", ("maker", "list", "one", (), ())),
            ("maker list one x number y fun", ("maker", "list", "one", (("x", "number"), ("y", "fun")), ())),
            ("maker list one x number | sum : (+ x 1)", ("maker", "list", "one", (("x", "number"),), (("sum", read_term("(+ x 1)")),))),
            ("maker list one x number | sum : x | none : (make one x)",
             ("maker", "list", "one", (("x", "number"),), (("sum", read_term("x")), ("none", read_term("(make one x)"))))),
            ("asker fun one to list", ("asker", "fun", "one", (), "list", ())),
            ("asker fun one x number y list to number", ("asker", "fun", "one", (("x", "number"), ("y", "list")), "number", ())),
            ("asker fun one x number to list | inc : (make cons x (make nil)) | total : l",
             ("asker", "fun", "one", (("x", "number"),), "list", (("inc", read_term("(make cons x (make nil))")), ("total", read_term("l"))))),
            ("cell list nil sum 5", ("cell", "list", "nil", "sum", ("num", 5))),
            ("cell list cons none tail", ("cell", "list", "cons", "none", ("name", "tail"))),
            ("cell list cons none (make nil)", ("cell", "list", "cons", "none", ("make", "nil", ()))),
            ("gone list nil sum", ("gone", "list", "nil", "sum")),
            ("gone fun total call", ("gone", "fun", "total", "call")),
        ):
            self.sides("sides " + row, (edit,))

    def test_prices(self):
        for row, told in (
            ("sides maker list one | sum : 1 ; maker list two | sum : 2 ; asker fun f to number | inc : 1 | total : 2",
             "price 3 list asked fun made"),
            ("sides asker list f to number | nil : 1 | cons : 2 ; maker fun g | call : 1 ; maker fun h | call : 1",
             "price 3 list made fun asked"),
        ):
            self.assertEqual(answered(FLAT, row), told)
        self.assertEqual(answered("made k", "sides asker k f to number ; maker k c | f : 1 ; maker k d | f : 1"), "price 3 k asked")
        self.assertTrue(answered(FLAT, "sides cell list nil sum 0").startswith("price 0 list "))

    def test_edits_one_behind_the_other(self):
        self.sides("sides maker list one x number ; cell list one sum x ; gone list one sum ; cell list one sum 2",
                   (("maker", "list", "one", (("x", "number"),), ()), ("cell", "list", "one", "sum", ("name", "x")),
                    ("gone", "list", "one", "sum"), ("cell", "list", "one", "sum", ("num", 2))))

    def test_refused_edits(self):
        for row in (
            "sides gone other nil sum", "sides gone list other sum", "sides gone list nil other", "sides gone list nil none",
            "sides gone list nil sum ; gone list nil sum", "sides cell list nil sum x", "sides cell list nil sum (make nil)",
            "sides cell list nil sum (case (make nil) to number)", "sides maker list inc", "sides asker list call to number",
            "sides maker list one x other", "sides asker list one to other", "sides maker list one | sum : 1 | sum : 1",
            "sides maker list one | call : 1", "sides asker list one to number | inc : 1", "sides cell list inc call 1",
            "sides maker list one x number x number", "sides cell list nil sum 5 ; gone other nil sum",
        ):
            with self.assertRaises(NoEdit, msg=row):
                answered(FLAT, row)

    def test_not_flat_comes_ahead(self):
        for row in ("sides gone list nil sum", "sides gone other nil sum", "sides maker list nil"):
            with self.assertRaises(NotFlat, msg=row) as caught:
                answered(TABLES, row)
            self.assertEqual(caught.exception.row, 1)

    def test_edits_by_chance(self):
        chance = random.Random(98)
        many = 0
        for k in range(50):
            program, edits = edits_by_chance(chance)
            if edits:
                many += len(edits)
                self.sides("sides " + " ; ".join(shown_edit(edit) for edit in edits), edits, shown(program))
        self.assertGreater(many, 100)


def shown_edit(edit):
    def pairs(told):
        return "".join(f" {name} {kind}" for name, kind in told)

    def cells(told):
        return "".join(f" | {name} : {show_term(term)}" for name, term in told)

    if edit[0] == "maker":
        return f"maker {edit[1]} {edit[2]}" + pairs(edit[3]) + cells(edit[4])
    if edit[0] == "asker":
        return f"asker {edit[1]} {edit[2]}" + pairs(edit[3]) + f" to {edit[4]}" + cells(edit[5])
    return " ".join(edit[:4] + tuple(show_term(term) for term in edit[4:]))


NO_ROWS = (
    "", " ", "other", "Run 5 1", "answered", "(make nil)", "(run 5 1)", "5", "|", ";", "lift\n", "\nlift", "lift;",
    # run
    "run", "run 5", "run 1 2 3", "run 05 1", "run 00 1", "run 2001 1", "run 10000 1", "run 1000000 1", "run -1 1", "run +1 1", "run x 1",
    "run (make nil) 1", "run 5 01", "run 5 1000000", "run 5 X", "run 5 to", "run 5 ()", "run 5 (make)", "run 5 (make nil", "run 5 make nil)",
    "run 5 (make nil))", "run 5 (make  nil)", "run 5 (make nil )", "run 5 ( make nil)", "run 5 (case (make nil) number)", "run 5 |", "run 5 ;",
    "run 5 abcdefghi", "run  5 1", "run 5  1", " run 5 1", "run 5 1 ", "run 5 1\n", "run\t5 1", "run 5 1 ; run 5 1", "run 5 (let to 1 2)",
    # lift
    " lift", "lift ", "lift list", "lift 1", "lift lift", "Lift",
    # turn
    "turn ", " turn", "turn  list", "turn list ", "turn number", "turn to", "turn 5", "turn List", "turn list list", "turn fun list fun",
    "turn other other", "turn (make nil)", "turn list | fun", "turn list ; fun", "turn list;", "turn abcdefghi", "turn list\n",
    # sides
    "sides", "sides ", "sides ;", "sides other", "sides gone", "sides gone list nil", "sides gone list nil sum other", "sides gone list nil sum ",
    "sides gone list nil sum ;", "sides ; gone list nil sum", "sides gone list nil sum ; ; gone list nil sum", "sides gone list nil sum;",
    "sides gone list nil sum | gone list nil sum", "sides  gone list nil sum", "sides gone  list nil sum", "sides gone number nil sum",
    "sides gone list number sum", "sides gone list nil to", "sides gone list nil 5", "sides gone list nil (make nil)", "sides gone list nil sum;gone list nil sum",
    "sides cell list nil sum", "sides cell list nil sum 5 5", "sides cell list nil sum 05", "sides cell list nil sum to", "sides cell list nil sum (make)",
    "sides cell list nil sum (make nil", "sides cell list nil to 5", "sides cell list made sum 5", "sides cell number nil sum 5",
    "sides cell list nil sum : 5", "sides cell list nil | sum : 5", "sides cell",
    "sides maker", "sides maker list", "sides maker | sum : 1", "sides maker list | sum : 1", "sides maker number one", "sides maker list to",
    "sides maker list one x", "sides maker list one x number y", "sides maker list one number x", "sides maker list one x to",
    "sides maker list one x Number", "sides maker list one |", "sides maker list one | sum", "sides maker list one | sum :", "sides maker list one | sum 1",
    "sides maker list one | sum : 1 2", "sides maker list one | sum : 01", "sides maker list one | to : 1", "sides maker list one | sum : 1 |",
    "sides maker list one | | sum : 1", "sides maker list one to number", "sides maker list one sum : 1", "sides maker list one | sum : (make",
    "sides maker list one | sum x : 1", "sides maker list (make nil)", "sides maker (make nil) one",
    "sides asker", "sides asker list", "sides asker list one", "sides asker list one to", "sides asker list to number", "sides asker one to number",
    "sides asker number one to number", "sides asker list one x to number", "sides asker list one x number number", "sides asker list one number to",
    "sides asker list one to number to number", "sides asker list one to 5", "sides asker list one to number |", "sides asker list one to number | nil : ",
    "sides asker list one to number | nil : 1 ;", "sides asker list one to number x number", "sides asker list one | nil : 1", "sides asker | nil : 1",
    "sides gone list nil sum ; other", "sides gone list nil sum ; run 5 1", "sides run 5 1", "sides sides gone list nil sum", "run 5 (+ 1 2 3)",
    "sides gone list nil sum ; lift", "sides cell list nil sum (; 1)", "run 5 (make ; nil)",
)


class Refused(unittest.TestCase):
    def test_rows_that_are_none(self):
        for text in (FLAT, TABLES, ""):
            for row in NO_ROWS:
                with self.assertRaises(NoRow, msg=row):
                    answered(text, row)

    def test_texts_that_are_none_come_first(self):
        for text, number in (("other", 0), ("made k\ntab c", 1), (FLAT.replace("\ncross fun list 1", ""), 6), (FLAT + "\n", 7), (FLAT + " ", 6),
                             ("made k | c\ndef f to number | c : x y", 1)):
            for row in ("run 5 1", "run 5 x", "lift", "turn other", "turn", "sides gone list nil sum", "other", ""):
                with self.assertRaises(NoText, msg=text) as caught:
                    answered(text, row)
                self.assertEqual(caught.exception.row, number)

    def test_programs_that_are_not_let_by_come_next(self):
        for text, word, number in (("made k\nasked k", "twice", 1), ("made k | c\ndef f to number | c : x", "unknown", 1),
                                   ("made k | c x k\ndef f x k to k | c : x", "clash", 1),
                                   ("made k | c\ndef f to number | c : (case (make c) to number | c : (make c))", "kind", 1)):
            for row in ("run 5 1", "run 5 x", "lift", "turn other", "turn", "sides gone list nil sum", "other", ""):
                with self.assertRaises(NoProgram, msg=text) as caught:
                    answered(text, row)
                self.assertEqual((caught.exception.word, caught.exception.row), (word, number))

    def test_the_whole_row_is_read_ahead_of_its_answer(self):
        for row in ("turn other other", "sides gone other nil sum ; gone", "sides cell other nil sum 5 ; cell list nil sum 05", "run 2001 x"):
            with self.assertRaises(NoRow, msg=row):
                answered(FLAT, row)

    def test_rows_changed_by_chance(self):
        """Each row that is another in one sign is answered or refused, and nothing else comes of it."""
        chance = random.Random(99)
        rows = ("run 12 (ask (make cons 4 (make nil)) sum)", "turn list fun", "lift", "sides gone list nil sum ; cell list nil sum 5",
                "sides maker list one x number | sum : x", "sides asker fun one x number to list | inc : (make cons x (make nil)) | total : l")
        seen = {}
        for k in range(3000):
            row = rows[k % len(rows)]
            at = chance.randrange(len(row) + 1)
            row = row[:at] + chance.choice(("", " ", "(", ")", "|", ";", "0", "x", ":")) + row[at + chance.randrange(2):]
            try:
                answered(FLAT, row)
                told = "told"
            except (NoRow, NoTerm, NoKind, NoEdit) as refusal:
                told = type(refusal).__name__
            seen[told] = seen.get(told, 0) + 1
        self.assertEqual(sorted(seen), ["NoEdit", "NoKind", "NoRow", "NoTerm", "told"])


class AnyPrograms(unittest.TestCase):
    def test_runs_of_programs_written_out(self):
        for text, terms in longer.ALL:
            program = programs.program_of(text)
            text = shown(program)
            for term in terms:
                end, steps = ran(program, read_term(term), 100)
                words = answered(text, "run 100 " + term).split(" ")
                self.assertEqual((words[0], words[-2:]), (end[0], ["after", str(steps)]))
                flat = answered(text, "lift")
                self.assertEqual(answered(flat, "run 100 " + term).split(" ")[-2:], words[-2:])
            names = " ".join(kind[1] for kind in program)
            both = answered(answered(flat, "turn " + names), "turn " + names)
            self.assertEqual(answered(both, "turn"), both)

    def test_asked_again_the_same_is_told(self):
        for row in ("run 9 (ask (make nil) sum)", "lift", "turn list", "sides maker list one ; asker fun f to list"):
            self.assertEqual(answered(FLAT, row), answered(FLAT, row))

    def test_what_the_edits_tell_may_be_handed_on(self):
        program = edited(read(FLAT), ("maker", "list", "one", (), ()))
        self.assertEqual(answered(shown(program), "run 1 (make one)"), "answer one() after 0")
