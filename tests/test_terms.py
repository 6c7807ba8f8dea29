import random
import unittest

import programs
import samples
from sideturn.reader import read
from sideturn.terms import free_names, inner_tables, is_flat, is_plain, parts, taken_names
from sideturn.termtexts import read_term, show_term
from sideturn.writer import shown


def free_by_scopes(term, bound):
    """The free names, each as often as it stands so, by calls within calls."""
    def of_rows(rows):
        return [name for row in rows for name in free_by_scopes(row[2], bound | set(row[1]))]

    def of_terms(terms):
        return [name for one in terms for name in free_by_scopes(one, bound)]

    word = term[0]
    if word == "name":
        return [] if term[1] in bound else [term[1]]
    if word == "num":
        return []
    if word == "op":
        return of_terms(term[2:])
    if word == "zero":
        return of_terms(term[1:])
    if word == "let":
        return of_terms([term[2]]) + free_by_scopes(term[3], bound | {term[1]})
    if word == "make":
        return of_terms(term[2])
    if word == "ask":
        return of_terms([term[1]]) + of_terms(term[3])
    if word == "case":
        return of_terms([term[1]]) + of_rows(term[3])
    return of_rows(term[2])


class Parts(unittest.TestCase):
    def test_a_term_ahead_of_those_in_it_and_these_in_order(self):
        for text, told in (
            ("x", ["x"]),
            ("7", ["7"]),
            ("(+ 1 2)", ["(+ 1 2)", "1", "2"]),
            ("(zero 1 2 3)", ["(zero 1 2 3)", "1", "2", "3"]),
            ("(let x 1 y)", ["(let x 1 y)", "1", "y"]),
            ("(make c)", ["(make c)"]),
            ("(make c 1 x 3)", ["(make c 1 x 3)", "1", "x", "3"]),
            ("(ask x f)", ["(ask x f)", "x"]),
            ("(ask x f 1 2)", ["(ask x f 1 2)", "x", "1", "2"]),
            ("(case x to k)", ["(case x to k)", "x"]),
            ("(case x to k | c a : 1 | d : 2)", ["(case x to k | c a : 1 | d : 2)", "x", "1", "2"]),
            ("(new k)", ["(new k)"]),
            ("(new k | f a : 1 | g : 2)", ["(new k | f a : 1 | g : 2)", "1", "2"]),
            ("(+ (- 1 2) (* 3 (make c 4)))",
             ["(+ (- 1 2) (* 3 (make c 4)))", "(- 1 2)", "1", "2", "(* 3 (make c 4))", "3", "(make c 4)", "4"]),
        ):
            self.assertEqual([show_term(part) for part in parts(read_term(text))], told)

    def test_parts_are_in_the_texts_order(self):
        chance = random.Random(3)
        for k in range(300):
            term = samples.any_term(chance, 4)
            text, at = show_term(term), 0
            for part in parts(term):
                at = text.index(show_term(part), at)
                at += 1 if show_term(part)[0] == "(" else len(show_term(part))

    def test_each_list_is_the_askers_own(self):
        term = read_term("(+ 1 2)")
        parts(term).clear()
        self.assertEqual(len(parts(term)), 3)

    def test_deep_terms(self):
        term = ("num", 0)
        for k in range(3000):
            term = ("make", "c", (term,))
        self.assertEqual(len(parts(term)), 3001)
        self.assertIs(is_plain(term), True)

    def test_plain_is_without_inner_tables(self):
        for text in ("x", "1", "(make c)", "(ask x f (+ 1 2))", "(zero 1 2 (let x 1 x))"):
            self.assertIs(is_plain(read_term(text)), True)
        for text in ("(new k)", "(case x to k)", "(make c 1 (new k))", "(ask (case x to k) f)", "(let x 1 (new k))",
                     "(zero 1 2 (+ 1 (new k)))", "(ask x f (new k))"):
            self.assertIs(is_plain(read_term(text)), False)


class FreeNames(unittest.TestCase):
    def test_names_that_stand_unbound_each_once_in_the_texts_order(self):
        for text, names in (
            ("x", "x"), ("7", ""), ("(make c)", ""), ("(make c x c)", "x c"), ("(+ b a)", "b a"), ("(+ a (- b a))", "a b"),
            ("(zero c b a)", "c b a"), ("(ask y x z)", "y z"), ("(ask x f (+ z y) x)", "x z y"),
            ("(let x 1 x)", ""), ("(let x y z)", "y z"), ("(let x x x)", "x"), ("(let x (+ y x) (+ x z))", "y x z"),
            # bound at one spot and free at another
            ("(+ (let x 1 x) x)", "x"), ("(+ x (let x 1 x))", "x"), ("(+ (let x 1 y) (let y 1 x))", "y x"),
            # bound again
            ("(let x 1 (let x x x))", ""), ("(let x 1 (+ (let x 2 x) x))", ""), ("(+ (let x 1 (let x 2 x)) x)", "x"),
            ("(case x to k | c a : (+ a b) | d : a)", "x b a"), ("(case (+ b a) to k | c b : a | d x y : (+ y z))", "b a z"),
            ("(case x to k | c x : x)", "x"), ("(case 1 to k | c x x : x | d : x)", "x"),
            ("(new k)", ""), ("(new k | f a : (+ a b) | g b : (+ b c))", "b c"), ("(new k | f a a : a | g : a)", "a"),
            ("(new k | f a : (new k | f b : (+ a (+ b c))) | g : (+ b a))", "c b a"),
            ("(let x (new k | f x : x) (case x to k | c y : (+ x y)))", ""),
            ("(case (case u to k | c v : (+ v w)) to k | c w : (+ v w))", "u w v"),
        ):
            self.assertEqual(free_names(read_term(text)), tuple(names.split()), msg=text)

    def test_makers_askers_and_kinds_are_no_names(self):
        self.assertEqual(free_names(read_term("(ask (make c 1) f (case (make d) to k | c : 1) (new l | f : 2))")), ())

    def test_of_an_inner_table_those_of_its_rows_alone(self):
        for text, names in (
            ("(case x to k)", ""), ("(case x to k | c a : (+ a b) | d : a)", "b a"), ("(case x to k | c : y)", "y"),
            ("(case x to k | c y : (+ x y))", "x"), ("(case (+ a b) to k | c : b | d : a)", "b a"),
            ("(case (case u to k | c v : (+ v w)) to k | c w : (+ v w))", "v"),
            ("(case x to k | c y : (case (+ z y) to k | d y : (+ y w)))", "z w"),
            ("(new k)", ""), ("(new k | f a : (+ a b) | g b : (+ b c))", "b c"), ("(new k | f : 1)", ""),
            ("(new k | f x : (new l | g y : (+ z (+ y x))) | g : (+ y z))", "z y"),
            ("(case (let b 1 b) to k | c a : (let b (+ b a) b))", "b"),
        ):
            self.assertEqual(taken_names(read_term(text)), tuple(names.split()), msg=text)

    def test_held_against_scopes(self):
        chance = random.Random(11)
        tables = 0
        for k in range(1500):
            term = samples.any_term(chance, 5)
            self.assertEqual(free_names(term), tuple(dict.fromkeys(free_by_scopes(term, frozenset()))))
            if term[0] in ("case", "new"):
                tables += 1
                bare = ("case", ("num", 0), "k", term[3]) if term[0] == "case" else term
                self.assertEqual(taken_names(term), free_names(bare))
        self.assertGreater(tables, 100)

    def test_deep_terms(self):
        term = ("name", "x")
        for k in range(3000):
            term = ("let", "y", ("name", "z"), ("new", "k", (("f", ("x", "w"), ("op", "+", ("name", "y"), term)),)))
        self.assertEqual(free_names(term), ("z",))
        self.assertEqual(taken_names(term[3]), ("y", "z"))


# Tables within tables, several in a row's cells, and rows without any.
TABLES = """made list | nil | cons head number tail list
def sum to number | nil : 0 | cons : (+ head (ask tail sum))
def twice of fun to list | cons : (case (case tail to list | nil : tail) to list | nil : tail) | nil : (make nil)
asked fun | call arg number to number | self to fun
tab inc | call : (+ arg 1) | self : (new fun)
tab one l list | self : (new fun | self : (new fun) | call x : (case l to number | cons h t : (+ h x))) | call : (ask (new fun) call arg)"""
PLACES = (
    (2, 0, "(case (case tail to list | nil : tail) to list | nil : tail)"),
    (2, 1, "(case tail to list | nil : tail)"),
    (4, 0, "(new fun)"),
    (5, 0, "(new fun | self : (new fun) | call x : (case l to number | cons h t : (+ h x)))"),
    (5, 1, "(new fun)"),
    (5, 2, "(case l to number | cons h t : (+ h x))"),
    (5, 3, "(new fun)"),
)


class InnerTables(unittest.TestCase):
    def test_places_are_the_texts_row_and_the_number_there(self):
        told = inner_tables(programs.program_of(TABLES))
        self.assertEqual([(place[0], place[1], show_term(term)) for place, term in told], list(PLACES))
        for one in told:
            self.assertIs(type(one), tuple)
            self.assertIs(type(one[0]), tuple)

    def test_places_by_the_text(self):
        chance = random.Random(12)
        many = 0
        for k in range(150):
            program = programs.any_program(chance)
            told = inner_tables(program)
            found = []
            for number, row in enumerate(shown(program).split("\n")):
                words = [word for word in row.split(" ") if word in ("(case", "(new")]
                found += [(number, k, word[1:]) for k, word in enumerate(words)]
            self.assertEqual([(place[0], place[1], term[0]) for place, term in told], found)
            self.assertIs(is_flat(program), not found)
            many += len(found)
        self.assertGreater(many, 300)

    def test_flat_is_without_inner_tables(self):
        for text in ("", "made k | c", "asked k | f to k\ntab c | f : (make c)", "made k | c\ndef f to number | c : (let x 1 x)"):
            self.assertIs(is_flat(read(text)), True)
            self.assertEqual(inner_tables(read(text)), [])
        self.assertIs(is_flat(programs.program_of(TABLES)), False)
        self.assertIs(is_flat(read("asked k | f to k\ntab c\ntab d | f : (let x (ask (make c) f) (new k))")), False)

    def test_each_list_is_the_askers_own(self):
        program = programs.program_of(TABLES)
        inner_tables(program).clear()
        self.assertEqual(len(inner_tables(program)), 7)

    def test_rows_with_the_most_parts(self):
        table = ("new", "k", ())
        for k in range(39):
            table = ("new", "k", (("f", (), table),) * 1)
        wide = ("make", "c", tuple(("new", "k", ()) for k in range(415)))
        program = (("asked", "k", (("f", (), "k"),), (("c", (), (("f", wide), ("f", table))),)),)
        self.assertEqual([place for place, term in inner_tables(program)], [(1, k) for k in range(455)])
        self.assertEqual(inner_tables(program)[414][1], ("new", "k", ()))
        self.assertEqual(inner_tables(program)[415][1], table)
