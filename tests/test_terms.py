import random
import unittest

import samples
from sideturn.terms import is_plain, parts
from sideturn.termtexts import read_term, show_term


class Parts(unittest.TestCase):
    def test_a_term_ahead_of_those_in_it_and_these_in_order(self):
        for text, told in (
            ("x", ["x"]),
            ("7", ["7"]),
            ("(+ 1 2)", ["(+ 1 2)", "1", "2"]),
            ("(zero 1 2 3)", ["(zero 1 2 3)", "1", "2", "3"]),
            ("(let x 1 y)", ["(let x 1 y)", "1", "y"]),
            ("(make c)", ["(make c)"]),
            ("(make c 1 x 3)", ["(make c 1 x 3)", "1", "x", "3"]),
            ("(ask x f)", ["(ask x f)", "x"]),
            ("(ask x f 1 2)", ["(ask x f 1 2)", "x", "1", "2"]),
            ("(case x to k)", ["(case x to k)", "x"]),
            ("(case x to k | c a : 1 | d : 2)", ["(case x to k | c a : 1 | d : 2)", "x", "1", "2"]),
            ("(new k)", ["(new k)"]),
            ("(new k | f a : 1 | g : 2)", ["(new k | f a : 1 | g : 2)", "1", "2"]),
            ("(+ (- 1 2) (* 3 (make c 4)))",
             ["(+ (- 1 2) (* 3 (make c 4)))", "(- 1 2)", "1", "2", "(* 3 (make c 4))", "3", "(make c 4)", "4"]),
        ):
            self.assertEqual([show_term(part) for part in parts(read_term(text))], told)

    def test_parts_are_in_the_texts_order(self):
        chance = random.Random(3)
        for k in range(300):
            term = samples.any_term(chance, 4)
            text, at = show_term(term), 0
            for part in parts(term):
                at = text.index(show_term(part), at)
                at += 1 if show_term(part)[0] == "(" else len(show_term(part))

    def test_each_list_is_the_askers_own(self):
        term = read_term("(+ 1 2)")
        parts(term).clear()
        self.assertEqual(len(parts(term)), 3)

    def test_deep_terms(self):
        term = ("num", 0)
        for k in range(3000):
            term = ("make", "c", (term,))
        self.assertEqual(len(parts(term)), 3001)
        self.assertIs(is_plain(term), True)

    def test_plain_is_without_inner_tables(self):
        for text in ("x", "1", "(make c)", "(ask x f (+ 1 2))", "(zero 1 2 (let x 1 x))"):
            self.assertIs(is_plain(read_term(text)), True)
        for text in ("(new k)", "(case x to k)", "(make c 1 (new k))", "(ask (case x to k) f)", "(let x 1 (new k))",
                     "(zero 1 2 (+ 1 (new k)))", "(ask x f (new k))"):
            self.assertIs(is_plain(read_term(text)), False)
