import random
import unittest

import longer
import programs
from editing import Editing, grid_edited, grid_of
from reference import Reference
from sideturn.edits import edited
from sideturn.errors import NoEdit
from sideturn.looker import look
from sideturn.reader import read
from sideturn.runs import ran
from sideturn.terms import is_flat
from sideturn.termtexts import read_term
from sideturn.turning import in_order, turned
from sideturn.writer import shown

MADE = """made list | nil | cons head number tail list
def sum to number | cons : (+ head (ask tail sum)) | nil : 0
def none l list to list | nil : l"""
ASKED = """asked list | sum to number | none l list to list
tab nil | none : l | sum : 0
tab cons head number tail list | sum : (+ head (ask tail sum))"""
OTHER = "made other | one x number\ndef plus y number to number | one : (+ x y)"


def term(text):
    return read_term(text)


def rows(*told):
    return tuple((name, read_term(text)) for name, text in told)


class Done(unittest.TestCase):
    def done(self, made, asked, edit):
        """The edit from either side, with another kind ahead and one behind."""
        for text, told in ((MADE, made), (ASKED, asked)):
            self.assertEqual(shown(edited(read(text), edit)), told)
            ahead, behind = read(OTHER), read("asked more")
            self.assertEqual(edited(ahead + read(text) + behind, edit), ahead + read(told) + behind)

    def test_a_maker_more(self):
        self.done(
            """made list | nil | cons head number tail list | two a list b list
def sum to number | cons : (+ head (ask tail sum)) | nil : 0 | two : (+ (ask a sum) (ask b sum))
def none l list to list | nil : l | two : (make two b l)""",
            """asked list | sum to number | none l list to list
tab nil | none : l | sum : 0
tab cons head number tail list | sum : (+ head (ask tail sum))
tab two a list b list | none : (make two b l) | sum : (+ (ask a sum) (ask b sum))""",
            ("maker", "list", "two", (("a", "list"), ("b", "list")),
             rows(("none", "(make two b l)"), ("sum", "(+ (ask a sum) (ask b sum))"))))

    def test_an_asker_more(self):
        self.done(
            """made list | nil | cons head number tail list
def sum to number | cons : (+ head (ask tail sum)) | nil : 0
def none l list to list | nil : l
def add n number to list | cons : (make cons (+ head n) (ask tail add n)) | nil : (make nil)""",
            """asked list | sum to number | none l list to list | add n number to list
tab nil | none : l | sum : 0 | add : (make nil)
tab cons head number tail list | sum : (+ head (ask tail sum)) | add : (make cons (+ head n) (ask tail add n))""",
            ("asker", "list", "add", (("n", "number"),), "list",
             rows(("cons", "(make cons (+ head n) (ask tail add n))"), ("nil", "(make nil)"))))

    def test_makers_and_askers_without_cells(self):
        self.done(MADE.replace("tail list\n", "tail list | no\n"), ASKED + "\ntab no", ("maker", "list", "no", (), ()))
        self.done(MADE + "\ndef no to number", ASKED.replace("to list\n", "to list | no to number\n"),
                  ("asker", "list", "no", (), "number", ()))

    def test_some_of_the_cells(self):
        self.done(MADE.replace("tail list\n", "tail list | no\n").replace("nil : 0", "nil : 0 | no : 7"), ASKED + "\ntab no | sum : 7",
                  ("maker", "list", "no", (), rows(("sum", "7"))))

    def test_a_cell_that_is_there_stays_in_its_place(self):
        self.done(MADE.replace("(+ head (ask tail sum))", "5"), ASKED.replace("(+ head (ask tail sum))", "5"),
                  ("cell", "list", "cons", "sum", term("5")))
        self.done(MADE.replace("nil : l", "nil : (make nil)"), ASKED.replace("none : l |", "none : (make nil) |"),
                  ("cell", "list", "nil", "none", term("(make nil)")))

    def test_a_new_cell_comes_at_the_end(self):
        self.done(MADE + " | cons : tail", ASKED + " | none : tail", ("cell", "list", "cons", "none", term("tail")))

    def test_a_cell_that_is_this_very_term_stays(self):
        self.done(MADE, ASKED, ("cell", "list", "nil", "none", term("l")))
        self.done(MADE, ASKED, ("cell", "list", "cons", "sum", term("(+ head (ask tail sum))")))

    def test_a_cell_gone(self):
        self.done(MADE.replace(" | nil : l", ""), ASKED.replace("none : l | ", ""), ("gone", "list", "nil", "none"))
        self.done(MADE.replace("cons : (+ head (ask tail sum)) | ", ""), ASKED.replace(" | sum : (+ head (ask tail sum))", ""),
                  ("gone", "list", "cons", "sum"))

    def test_gone_and_there_again_it_comes_at_the_end(self):
        for text, told in ((MADE, MADE.replace("cons : (+ head (ask tail sum)) | nil : 0", "nil : 0 | cons : (+ head (ask tail sum))")),
                           (ASKED, ASKED)):
            program = edited(read(text), ("gone", "list", "cons", "sum"))
            self.assertEqual(shown(edited(program, ("cell", "list", "cons", "sum", term("(+ head (ask tail sum))")))), told)
        program = edited(read(ASKED), ("gone", "list", "nil", "none"))
        self.assertEqual(shown(edited(program, ("cell", "list", "nil", "none", term("l")))), ASKED.replace("none : l | sum : 0", "sum : 0 | none : l"))

    def test_the_program_handed_in_stays(self):
        for text in (MADE, ASKED):
            program = read(text)
            edited(program, ("maker", "list", "no", (), rows(("sum", "7"))))
            edited(program, ("gone", "list", "nil", "sum"))
            self.assertEqual(shown(program), text)

    def test_beyond_the_bounds(self):
        program = read(MADE)
        for k in range(12):
            letter = "abcdefghijkl"[k]
            program = edited(program, ("maker", "list", "m" + letter, tuple((name, "number") for name in "pqrstuv"), rows(("sum", "p"))))
            program = edited(program, ("asker", "list", "f" + letter, (("x", "list"),), "list", rows(("m" + letter, "x"), ("nil", "x"))))
        self.assertTrue(look(program))
        self.assertEqual((len(program[0][2]), len(program[0][3])), (14, 14))
        self.assertEqual(ran(program, term("(ask (make ml 5 6 7 8 9 10 11) sum)"), 9), (("answer", 5), 1))
        deep = ("num", 1)
        for k in range(2000):
            deep = ("op", "+", ("num", 1), deep)
        self.assertEqual(ran(edited(program, ("cell", "list", "nil", "sum", deep)), term("(ask (make nil) sum)"), 9), (("answer", 2001), 1))


class Refused(unittest.TestCase):
    def refused(self, edit):
        for text in (MADE, ASKED):
            for program in (read(text), read(OTHER) + read(text), turned(read(OTHER), ["other"]) + read(text)):
                with self.assertRaises(NoEdit, msg=edit):
                    edited(program, edit)

    def test_a_kind_that_is_not_there(self):
        for kind in ("lists", "number", "nil", "sum"):
            self.refused(("maker", kind, "no", (), ()))
            self.refused(("asker", kind, "no", (), "number", ()))
            self.refused(("cell", kind, "nil", "sum", term("1")))
            self.refused(("gone", kind, "nil", "sum"))
        with self.assertRaises(NoEdit):
            edited((), ("maker", "k", "c", (), ()))

    def test_a_maker_that_is_not_there(self):
        for maker in ("no", "sum", "list", "one"):
            self.refused(("cell", "list", maker, "sum", term("1")))
            self.refused(("gone", "list", maker, "sum"))
            self.refused(("asker", "list", "more", (), "number", rows((maker, "1"))))
            self.refused(("asker", "list", "more", (), "number", rows(("nil", "1"), (maker, "1"))))

    def test_an_asker_that_is_not_there(self):
        for asker in ("no", "nil", "list", "plus"):
            self.refused(("cell", "list", "nil", asker, term("1")))
            self.refused(("gone", "list", "nil", asker))
            self.refused(("maker", "list", "more", (), rows((asker, "1"))))
            self.refused(("maker", "list", "more", (), rows(("sum", "1"), (asker, "1"))))

    def test_makers_and_askers_of_another_kind(self):
        for sides in ([], ["other"], ["list"], ["list", "other"]):
            program = turned(read(MADE) + read(OTHER), sides)
            for edit in (("cell", "other", "nil", "sum", term("1")), ("cell", "other", "one", "sum", term("1")),
                         ("cell", "other", "nil", "plus", term("1")), ("gone", "other", "nil", "sum"), ("gone", "list", "one", "plus"),
                         ("maker", "other", "more", (), rows(("sum", "1"))), ("asker", "other", "more", (), "number", rows(("nil", "1")))):
                with self.assertRaises(NoEdit, msg=edit):
                    edited(program, edit)

    def test_a_cell_gone_that_lacks(self):
        self.refused(("gone", "list", "cons", "none"))

    def test_names_told_twice(self):
        self.refused(("maker", "list", "nil", (), ()))
        self.refused(("asker", "list", "sum", (), "number", ()))
        program = read(MADE) + read(OTHER)
        for sides in ([], ["other"], ["list"], ["list", "other"]):
            for edit in (("maker", "list", "one", (), ()), ("asker", "list", "plus", (), "number", ()),
                         ("maker", "other", "nil", (), ()), ("asker", "other", "sum", (), "number", ())):
                with self.assertRaises(NoEdit, msg=edit):
                    edited(turned(program, sides), edit)
        self.refused(("maker", "list", "more", (("x", "list"), ("x", "number")), ()))
        self.refused(("asker", "list", "more", (("x", "list"), ("x", "list")), "number", ()))
        self.refused(("maker", "list", "more", (), rows(("sum", "1"), ("sum", "1"))))
        self.refused(("asker", "list", "more", (), "number", rows(("nil", "1"), ("nil", "2"))))

    def test_kinds_unknown_in_heads(self):
        self.refused(("maker", "list", "more", (("x", "others"),), ()))
        self.refused(("asker", "list", "more", (("x", "others"),), "number", ()))
        self.refused(("asker", "list", "more", (), "others", ()))

    def test_clashes(self):
        self.refused(("maker", "list", "more", (("l", "list"),), rows(("none", "l"))))
        self.refused(("asker", "list", "more", (("head", "list"),), "number", rows(("cons", "1"))))
        # where no cell joins them they don't clash, but a cell that would come is refused
        program = edited(read(MADE), ("asker", "list", "more", (("head", "list"),), "number", rows(("nil", "1"))))
        for sides in ([], ["list"]):
            with self.assertRaises(NoEdit):
                edited(turned(program, sides), ("cell", "list", "cons", "more", term("1")))

    def test_terms_that_are_not_let_by(self):
        for text in ("x", "head", "(make nil)", "(make other)", "(ask 1 sum)", "(let head 1 (let head 2 head))", "(+ 1 l)", "(zero 0 1 (make nil))"):
            self.refused(("cell", "list", "nil", "sum", term(text)))
            self.refused(("maker", "list", "more", (), rows(("sum", text))))
            self.refused(("asker", "list", "more", (), "number", rows(("nil", text))))

    def test_terms_that_are_not_plain(self):
        for text in ("(case (make nil) to number)", "(case (make nil) to number | nil : 1)", "(ask (new fun | call : 3) call)"):
            program = read(MADE) + read("asked fun | call to number")
            for edit in (("cell", "list", "nil", "sum", term(text)), ("maker", "list", "more", (), rows(("sum", text))),
                         ("asker", "list", "more", (), "number", rows(("nil", text)))):
                with self.assertRaises(NoEdit, msg=edit):
                    edited(program, edit)


class AnyEdits(unittest.TestCase):
    """Edits one behind the other, on the program and on the program turned."""

    def answer(self, program, edit):
        try:
            return edited(program, edit)
        except NoEdit:
            return None

    def held(self, chance, program, edit):
        told = self.answer(program, edit)
        names = [kind[1] for kind in program]
        for kinds in (names, chance.sample(names, chance.randrange(len(names) + 1))):
            other = self.answer(turned(program, kinds), edit)
            if told is None:
                self.assertIsNone(other)
            else:
                self.assertEqual(turned(other, kinds), in_order(told, kinds))
        if told is not None:
            self.assertIs(Reference(told).told(), True)
            self.assertTrue(is_flat(told))
            self.assertEqual(grid_of(told), grid_edited(program, edit))
            self.rows_stay(program, told, edit)
        return told

    def rows_stay(self, program, told, edit):
        """Kinds, heads and rows that were there stay in their order, new ones come at the ends."""
        for kind, other in zip(program, told):
            self.assertEqual(other[2][:len(kind[2])], kind[2])
            for table, new in zip(kind[3], other[3]):
                self.assertEqual(table[:-1], new[:-1])
                names, new_names = ([name for name, cell in one[-1]] for one in (table, new))
                if edit[0] == "gone" and len(new_names) < len(names):
                    self.assertEqual([name for name in names if name in new_names], new_names)
                else:
                    self.assertEqual(new_names[:len(names)], names)

    def test_edits_that_fit(self):
        chance = random.Random(81)
        seen = {}
        for k in range(150):
            grown = programs.Grown(chance, with_tables=False)
            program = grown.program()
            editing = Editing(chance, grown)
            for j in range(8):
                edit = editing.fit(program)
                if edit is not None:
                    program = self.held(chance, program, edit)
                    self.assertIsNotNone(program, msg=edit)
                    seen[edit[0]] = seen.get(edit[0], 0) + 1
            for term in grown.asking_terms(2):
                names = [kind[1] for kind in program]
                self.assertEqual(ran(turned(turned(program, names), names), term, 20), ran(program, term, 20))
        self.assertGreater(min(seen[sort] for sort in ("maker", "asker", "cell", "gone")), 50, msg=seen)

    def test_edits_that_may_be_refused(self):
        chance = random.Random(82)
        seen = {}
        for k in range(300):
            grown = programs.Grown(chance, with_tables=False, few_names=k % 2 > 0)
            program = grown.program()
            editing = Editing(chance, grown)
            for j in range(8):
                edit = editing.any(program)
                told = self.held(chance, program, edit)
                seen[(edit[0], told is None)] = seen.get((edit[0], told is None), 0) + 1
                program = told or program
        self.assertEqual(len(seen), 8)
        self.assertGreater(min(seen.values()), 10, msg=seen)

    def test_refused_is_what_another_looker_refuses(self):
        chance = random.Random(83)
        for k in range(150):
            grown = programs.Grown(chance, with_tables=False)
            program = grown.program()
            editing = Editing(chance, grown)
            for j in range(6):
                edit = editing.any(program)
                if edit[0] == "maker" and edit[1] in [kind[1] for kind in program]:
                    # told by askers, a maker is one tab more: the whole program behind it is there to be looked through
                    program = turned(program, [kind[1] for kind in program if kind[0] == "made"])
                    behind = tuple(kind[:3] + (kind[3] + (edit[2:],),) if kind[1] == edit[1] else kind for kind in program)
                    let_by = Reference(behind).told() is True and is_flat(behind)
                    self.assertEqual(self.answer(program, edit), behind if let_by else None)

    def test_programs_written_out(self):
        chance = random.Random(84)
        for text, terms in longer.FLAT:
            program = programs.program_of(text)
            for side, kind, makers, askers, cells in grid_of(program):
                for maker, asker in sorted(cells):
                    gone = self.held(chance, program, ("gone", kind, maker, asker))
                    again = self.held(chance, gone, ("cell", kind, maker, asker, cells[(maker, asker)]))
                    names = [kind[1] for kind in program]
                    self.assertEqual(in_order(again, names), in_order(program, names))
