import random
import unittest

import longer
import programs
from runner import free_in_rows, within
from sideturn.errors import NoProgram
from sideturn.lifting import lifted, lifted_end, lifted_value
from sideturn.looker import look
from sideturn.reader import read
from sideturn.terms import inner_tables, is_flat
from sideturn.termtexts import read_term
from sideturn.words import is_name
from sideturn.writer import shown

SMALL = programs.program_of("""made list | nil | cons head number tail list
def sum to number | nil : 0 | cons : (case tail to number | nil : head | cons h t : (+ h (+ head (ask t sum))))
asked fun | call arg number to number | self to fun
tab one l list n number | self : (new fun | self : (new fun) | call x : (case l to number | cons h t : (+ h (* x n)) | nil : n)) | call : (ask (new fun) call arg)""")
# A table takes names that are fields or params of the kind it comes to, binds such for others, lets in it bind
# such, and names are bound again at spots of their own.
CLASHES = programs.program_of("""made list | nil | cons head number tail list
def f arg number to number | cons : (ask (new fun | call x at : (+ at (+ head (ask x f arg))) | then p q : (let at (- p q) (let x (* at head) (+ x (ask tail f at))))) call tail head) | nil : arg
asked fun | call at list x number to number | then arg number head number to number
tab one tail list by number | call : (let head (+ x by) (case at to number | cons y z : (case z to number | cons a b : (+ head (+ a (+ y (ask tail f by)))) | nil : (let c y (+ c head))) | nil : (let d x d))) | then : (+ (case tail to number | cons y z : (let x y (+ x (+ arg head)))) (let at (make nil) (let y (case at to number | nil : by) y)))
tab two | call : (case (make pair x at) to number | pair v u : (+ v (ask u f v))) | then : (+ (case (make pair arg (make nil)) to number | pair a b : (let u (+ a head) (let v b (+ u (ask v f a))))) (let a arg (case (make pair a (make nil)) to number | pair b c : (+ (let u a u) (let u c (ask u f b))))))
made pair | pair u number v list""")
PROGRAMS = (SMALL, CLASHES) + tuple(programs.program_of(text) for text, terms in longer.ALL)


def grown(seed, many):
    chance = random.Random(seed)
    return [programs.Grown(chance, few_names=k % 2 > 0).program() for k in range(many)]


class Held:
    """A program held against its lifted one, cell by cell and table by table."""

    def __init__(self, test, program):
        self.test = test
        self.flat, self.names = lifted(program)
        self.places = {}
        self.tables = {table[0]: table for kind in self.flat for table in kind[3]}
        self.fields = {}
        for side, kind, heads, tables in program:
            for head in heads + tables:
                self.fields[((head in heads) == (side == "made"), head[0])] = [name for name, told in head[1]]
        row = -1
        for kind, flat_kind in zip(program, self.flat):
            test.assertEqual(kind[:3], flat_kind[:3])
            row += 1
            for table, flat_table in zip(kind[3], flat_kind[3]):
                row, self.number = row + 1, 0
                test.assertEqual(table[:-1], flat_table[:-1])
                test.assertEqual([name for name, term in table[-1]], [name for name, term in flat_table[-1]])
                for (name, term), (same, flat_term) in zip(table[-1], flat_table[-1]):
                    names = self.fields[(kind[0] == "made", name)] + [field for field, told in table[1]]
                    self.same(term, flat_term, {one: one for one in names}, row, False)

    def same(self, term, other, names, row, is_lifted):
        """The two are alike but for tables lifted and, in lifted tables, for names."""
        word = term[0]
        if word in ("case", "new"):
            self.same_table(term, other, names, row, is_lifted)
            return
        self.test.assertEqual(word, other[0])
        inside, others = within(term), within(other)
        self.test.assertEqual(len(inside), len(others))
        if word == "name":
            self.test.assertEqual(names[term[1]], other[1])
        elif word == "let":
            self.test.assertTrue(is_lifted or term[1] == other[1])
            self.same(term[2], other[2], names, row, is_lifted)
            self.same(term[3], other[3], {**names, term[1]: other[1]}, row, is_lifted)
            return
        elif word in ("num", "op", "make"):
            self.test.assertEqual(term[1], other[1])
        elif word == "ask":
            self.test.assertEqual(term[2], other[2])
        for one, two in zip(inside, others):
            self.same(one, two, names, row, is_lifted)

    def same_table(self, term, other, names, row, is_lifted):
        place = (row, self.number)
        self.number += 1
        name = self.names[place]
        rows = term[3] if term[0] == "case" else term[2]
        taken = list(dict.fromkeys(free_in_rows(rows)))
        handed = tuple(("name", names[one]) for one in taken)
        if term[0] == "case":
            self.test.assertEqual((other[0],) + other[2:], ("ask", name, handed))
            self.same(term[1], other[1], names, row, is_lifted)
        else:
            self.test.assertEqual(other, ("make", name, handed))
        table = self.tables[name]
        self.test.assertEqual(len(table[1]), len(taken))
        self.test.assertEqual([one[0] for one in table[-1]], [one[0] for one in rows])
        self.places[place] = name
        for (maker, own, inner), (same, flat_inner) in zip(rows, table[-1]):
            bound = dict(zip(taken, [field for field, told in table[1]]))
            bound.update(zip(own, self.fields[(term[0] == "case", maker)]))
            self.same(inner, flat_inner, bound, row, True)


def told_by(program):
    makers = [one[0] for kind in program for one in (kind[2] if kind[0] == "made" else kind[3])]
    return makers, [one[0] for kind in program for one in (kind[3] if kind[0] == "made" else kind[2])]


class Lifted(unittest.TestCase):
    def test_a_small_one(self):
        flat, names = lifted(SMALL)
        self.assertEqual(sorted(names), [(1, 0), (3, 0), (3, 1), (3, 2), (3, 3)])
        a, b, c, d, e = (names[place] for place in sorted(names))
        (p,), (q, r) = ([name for name, kind in table[1]] for table in flat[0][3][1:])
        s, t = (name for name, kind in flat[1][3][1][1])
        self.assertEqual(shown(flat), f"""made list | nil | cons head number tail list
def sum to number | nil : 0 | cons : (ask tail {a} head)
def {a} {p} number to number | nil : {p} | cons : (+ head (+ {p} (ask tail sum)))
def {d} {q} number {r} number to number | cons : (+ head (* {q} {r})) | nil : {r}
asked fun | call arg number to number | self to fun
tab one l list n number | self : (make {b} l n) | call : (ask (make {e}) call arg)
tab {b} {s} list {t} number | self : (make {c}) | call : (ask {s} {d} arg {t})
tab {c}
tab {e}
cross fun list 1""")

    def test_the_programs_here_are_let_by(self):
        for program in PROGRAMS:
            self.assertTrue(look(program))

    def test_flat_programs_stay(self):
        for text in ("", "made k | c", longer.NATS):
            self.assertEqual(lifted(programs.program_of(text)), (programs.program_of(text), {}))

    def test_all_shapes(self):
        many = 0
        for program in PROGRAMS + tuple(grown(51, 150)):
            flat, names = lifted(program)
            self.assertTrue(is_flat(flat))
            self.assertTrue(look(flat))
            places = [place for place, table in inner_tables(program)]
            self.assertEqual(sorted(names), places)
            held = Held(self, program)
            self.assertEqual(held.places, names)
            many += len(places)
        self.assertGreater(many, 1000)

    def test_new_names_are_unlike_one_another_and_all_others(self):
        for program in PROGRAMS + tuple(grown(52, 60)):
            names = lifted(program)[1]
            makers, askers = told_by(program)
            self.assertTrue(all(is_name(name) for name in names.values()))
            self.assertEqual(len(set(names.values())), len(names))
            self.assertEqual(set(names.values()) & set(makers + askers), set())

    def test_new_ones_come_behind_in_the_order_of_their_places(self):
        for program in PROGRAMS + tuple(grown(53, 60)):
            flat, names = lifted(program)
            seen = []
            for kind, flat_kind in zip(program, flat):
                told = [table[0] for table in flat_kind[3]]
                self.assertEqual(told[:len(kind[3])], [table[0] for table in kind[3]])
                places = [place for name in told[len(kind[3]):] for place in names if names[place] == name]
                self.assertEqual(places, sorted(places))
                self.assertEqual(len(places), len(told) - len(kind[3]))
                seen += places
            self.assertEqual(sorted(seen), sorted(names))

    def test_so_many_tables_that_words_of_the_text_would_come_up(self):
        news = "(ask (new fun) call)"
        for k in range(5):
            news = f"(+ {news} {news})"
        cells = " | ".join(f"{c} : {news}" for c in ("call", "a", "b", "c"))
        tabs = "\n".join(f"tab m{c} | {cells}" for c in "abcde")
        program = read(f"asked fun | call to number | a to number | b to number | c to number\n{tabs}")
        flat, names = lifted(program)
        self.assertEqual(len(names), 32 * 4 * 5)
        self.assertTrue(look(flat))
        self.assertTrue(all(is_name(name) for name in names.values()))
        self.assertEqual(len(set(names.values())), len(names))

    def test_names_stay_where_every_short_name_is_taken(self):
        letters = "abcdefghijklmnopqrstuvwxyz"
        makers = " | ".join(letters)
        program = read(f"made k | {makers}\ndef f to number | a : (case (make b) to number | b : 1)")
        flat, names = lifted(program)
        self.assertTrue(look(flat))
        self.assertNotIn(names[(1, 0)], list(letters) + ["f"])


def without(table, k):
    return (table[0], table[1][:k] + table[1][k + 1:]) + table[2:]


def not_handed(term, name, k, is_case):
    """The term with the k-th of what is handed over to the new asker or maker left out."""
    terms = [not_handed(one, name, k, is_case) for one in within(term)]
    word = term[0]
    if word == "make":
        return (word, term[1], tuple(one for j, one in enumerate(terms) if is_case or term[1] != name or j != k))
    if word == "ask":
        handed = tuple(one for j, one in enumerate(terms[1:]) if not is_case or term[2] != name or j != k)
        return (word, terms[0], term[2], handed)
    if word == "zero":
        return (word,) + tuple(terms)
    return term[:2] + tuple(terms) if word in ("op", "let") else term


class OneFewer(unittest.TestCase):
    def test_with_any_one_fewer_the_program_is_not_let_by(self):
        many = 0
        for program in PROGRAMS + tuple(grown(54, 40)):
            flat, names = lifted(program)
            new = {name: dict(inner_tables(program))[place][0] == "case" for place, name in names.items()}
            for kind in flat:
                for table in kind[3]:
                    for k in range(len(table[1]) if table[0] in new else 0):
                        self.not_let_by(flat, table[0], k, new[table[0]])
                        many += 1
        self.assertGreater(many, 200)

    def not_let_by(self, flat, name, k, is_case):
        fewer = []
        for kind in flat:
            tables = []
            for table in kind[3]:
                rows = tuple((one, not_handed(term, name, k, is_case)) for one, term in table[-1])
                is_this = table[0] == name and (kind[0] == "made") == is_case
                tables.append((without(table, k) if is_this else table)[:-1] + (rows,))
            fewer.append(kind[:3] + (tuple(tables),))
        with self.assertRaises(NoProgram) as caught:
            look(tuple(fewer))
        self.assertEqual(caught.exception.word, "unknown")


class Read(unittest.TestCase):
    NAMES = {(3, 0): "x", (3, 1): "y", (5, 0): "z"}

    def test_values(self):
        for value, told in (
            (7, 7), (("made", "nil", ()), ("made", "nil", ())), (("asked", (3, 0), ()), ("asked", "x", ())),
            (("asked", (3, 1), (1, ("made", "of", (("asked", (5, 0), (("asked", "inc", ()),)),)))),
             ("asked", "y", (1, ("made", "of", (("asked", "z", (("asked", "inc", ()),)),))))),
        ):
            self.assertEqual(lifted_value(self.NAMES, value), told)

    def test_ends(self):
        for end, told in (
            (None, None), (("late",), ("late",)), (("answer", 5), ("answer", 5)),
            (("answer", ("asked", (3, 0), (("asked", (5, 0), ()),))), ("answer", ("asked", "x", (("asked", "z", ()),)))),
            (("fault", "nil", "sum"), ("fault", "nil", "sum")), (("fault", "nil", (3, 0)), ("fault", "nil", "x")),
            (("fault", (3, 1), "call"), ("fault", "y", "call")), (("great", "cons"), ("great", "cons")),
            (("great", (5, 0)), ("great", "z")),
        ):
            self.assertEqual(lifted_end(self.NAMES, end), told)

    def test_deep_values(self):
        value = 0
        for k in range(3000):
            value = ("asked", (3, 0), (value,))
        told = lifted_value(self.NAMES, value)
        for k in range(3000):
            self.assertEqual(told[:2], ("asked", "x"))
            told = told[2][0]

    def test_what_is_handed_in_and_told(self):
        names = dict(self.NAMES)
        lifted_value(names, ("asked", (3, 0), ()))
        self.assertEqual(names, self.NAMES)
        lifted(SMALL)[1].clear()
        self.assertEqual(len(lifted(SMALL)[1]), 5)
        self.assertEqual(lifted(SMALL), lifted(SMALL))
        self.assertEqual(read_term("(new fun)"), dict(inner_tables(SMALL))[(3, 1)])
