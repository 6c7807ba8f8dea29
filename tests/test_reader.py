import random
import unittest

import programs
from sideturn.errors import NoText
from sideturn.reader import read
from sideturn.writer import shown

ROWS = [
    "made list | nil | cons head number tail list",
    "def sum to number | nil : 0 | cons : (+ head (ask tail sum))",
    "def map by fun to list | nil : (make nil) | cons : (make cons (ask by call head) (ask tail map by))",
    "asked fun | call arg number to number",
    "tab inc | call : (+ arg 1)",
    "tab len of list | call : (+ (ask of sum) (ask (make nil) sum))",
    "cross list fun 1",
    "cross fun list 3",
]

# Texts and the row of which each is refused.
REFUSED = (
    # the text without signs has no row, a line feed alone has two
    ("\n", 0), ("\nmade k", 0), ("made k\n", 1), ("made k\n\nmade l", 1), (" ", 0), ("made k\n ", 1),
    # rows that are none
    ("x", 0), ("(make c)", 0), ("1", 0), ("|", 0), ("| made k", 0), ("kind k", 0), ("made", 0), ("asked", 0), ("def", 0),
    ("tab", 0), ("cross", 0), ("made k\nx", 1), ("made k\nto", 1), ("made k\nnumber", 1), ("made k\n: 1", 1),
    # blanks at an end, two together
    (" made k", 0), ("made k ", 0), ("made  k", 0), ("made k  | c", 0), ("made k |  c", 0), ("made k | c ", 0),
    ("made k | c x  number", 0), ("made k\ndef f to number ", 1), ("made k\n def f to number", 1),
    ("made k\ndef f to number | c :  1", 1), ("made k\ndef f to number | c : (+ 1 2 )", 1), ("made k\r\nmade l", 0),
    ("made k\tl", 0),
    # kinds' heads
    ("made number", 0), ("made to", 0), ("made K", 0), ("made abcdefghi", 0), ("made k l", 0), ("made 1", 0),
    ("made (make c)", 0), ("made | c", 0), ("made k c", 0), ("made k |", 0), ("made k | c |", 0), ("made k || c", 0),
    ("made k | | c", 0), ("made k : c", 0), ("asked number", 0), ("asked k l", 0), ("asked k |", 0), ("asked", 0),
    # makers
    ("made k | c x", 0), ("made k | c x number y", 0), ("made k | number", 0), ("made k | 1", 0), ("made k | c number x", 0),
    ("made k | c x 1", 0), ("made k | c 1 x", 0), ("made k | c x to", 0), ("made k | c to x", 0), ("made k | c x made", 0),
    ("made k | c to number", 0), ("made k | c x number to number", 0), ("made k | c : 1", 0), ("made k | (make c)", 0),
    ("made k | c (make d) number", 0), ("made k | c x (make d)", 0), ("made k | c\ntab c", 1), ("made k | case", 0),
    # askers
    ("asked k | f", 0), ("asked k | f to", 0), ("asked k | to number", 0), ("asked k | f x to number", 0),
    ("asked k | f x number", 0), ("asked k | f to number number", 0), ("asked k | f to to number", 0),
    ("asked k | f number x to k", 0), ("asked k | f to 1", 0), ("asked k | f to f : 1", 0), ("asked k | number to k", 0),
    ("asked k | f x number y to k", 0), ("asked k | f x number to k to k", 0), ("asked k | f to (make c)", 0),
    ("asked k | (make f) to k", 0), ("asked k | f x number to", 0), ("asked k | f k", 0),
    # defs
    ("made k\ndef", 1), ("made k\ndef f", 1), ("made k\ndef f to", 1), ("made k\ndef to k", 1), ("made k\ndef f x to k", 1),
    ("made k\ndef f x k", 1), ("made k\ndef f to k k", 1), ("made k\ndef f to k |", 1), ("made k\ndef f to k | c", 1),
    ("made k\ndef f to k | c :", 1), ("made k\ndef f to k | : 1", 1), ("made k\ndef f to k | c 1", 1),
    ("made k\ndef f to k | c : 1 2", 1), ("made k\ndef f to k | c : 1 |", 1), ("made k\ndef f to k | c x : 1", 1),
    ("made k\ndef f to k c : 1", 1), ("made k\ndef f | c : 1", 1), ("made k\ndef f to k | c : : 1", 1),
    ("made k\ndef f to k | c : 01", 1), ("made k\ndef f to k | c : 1000000", 1), ("made k\ndef f to k | c : (+ 1)", 1),
    ("made k\ndef f to k | c : (+ 1 2", 1), ("made k\ndef f to k | c : (+ 1 2))", 1), ("made k\ndef f to k | 1 : 1", 1),
    ("made k\ndef f to k | number : 1", 1), ("made k\ndef f to k | (make c) : 1", 1), ("made k\ndef f to k | c : number", 1),
    ("made k\ndef f to k | c : |", 1), ("made k\ndef number to k", 1), ("made k\ndef f to def", 1), ("made k\n(def f to k)", 1),
    # tabs
    ("asked k\ntab", 1), ("asked k\ntab c x", 1), ("asked k\ntab c x k y", 1), ("asked k\ntab c to k", 1),
    ("asked k\ntab c |", 1), ("asked k\ntab c | f", 1), ("asked k\ntab c | f :", 1), ("asked k\ntab c | : 1", 1),
    ("asked k\ntab c | f 1", 1), ("asked k\ntab c | f x : 1", 1), ("asked k\ntab c f : 1", 1), ("asked k\ntab 1", 1),
    ("asked k\ntab tab", 1), ("asked k\ntab c number x", 1), ("asked k\ntab c x k to k", 1), ("asked k\ntab | f : 1", 1),
    # defs and tabs where they can't stand
    ("def f to k", 0), ("tab c", 0), ("asked k\ndef f to k", 1), ("made k\ntab c", 1), ("made k\nasked l\ndef f to k", 2),
    ("asked k\nmade l\ntab c", 2), ("made k\ndef f to k\ntab c", 2), ("asked k\ntab c\ndef f to k", 2),
    ("made k\nasked l\ntab c\nmade m\ntab d", 4), ("asked k\nmade l\ndef f to k\nasked m\ndef g to k", 4),
    # the first of several
    ("x\ny", 0), ("made k\nx\ny", 1), ("made k\nmade l |\nasked m |", 1), ("made k |\nx", 0), ("made k\ntab c\nx", 1),
    # cross rows that aren't due
    ("cross k l 1", 0), ("made k\ncross k k 1", 1), ("made k\nasked l\ncross k l 0", 2), ("made k\nasked l\ncross k l 1", 2),
    ("made k\ncross", 1), ("made k\ncross k", 1), ("made k\ncross\nx", 1), ("cross\nmade k", 0),
    ("made k | c\nmade l | d\ndef f to k | d : (make c)\ncross l k 1", 3),
)


def text_of(rows):
    return "\n".join(rows)


def changed(at, row):
    return text_of(ROWS[:at] + [row] + ROWS[at + 1:])


def put_in(at, row):
    return text_of(ROWS[:at] + [row] + ROWS[at:])


def can_begin(rows):
    """Whether some text begins with these rows, told without reading them as one."""
    kinds = [row for row in rows if row.split(" ")[0] != "cross"]
    if rows and not kinds or kinds and kinds[0].split(" ")[0] not in ("made", "asked"):
        return False
    try:
        program = programs.program_of(text_of(kinds))
    except NoText:
        return False
    return shown(program).split("\n")[:len(rows)] == rows if rows else True


def first_bad_row(text):
    rows = text.split("\n") if text else []
    for number in range(len(rows)):
        if not can_begin(rows[:number + 1]):
            return number
    kinds = [row for row in rows if row.split(" ")[0] != "cross"]
    return None if shown(programs.program_of(text_of(kinds))) == text else len(rows)


class Read(unittest.TestCase):
    def assert_refused(self, text, row):
        with self.assertRaises(NoText, msg=repr(text)) as caught:
            read(text)
        self.assertEqual(caught.exception.row, row, msg=repr(text))

    def test_the_text_without_signs(self):
        self.assertEqual(read(""), ())

    def test_small_programs(self):
        for text, program in (
            ("made k", (("made", "k", (), ()),)),
            ("asked k", (("asked", "k", (), ()),)),
            ("made k\nmade k", (("made", "k", (), ()), ("made", "k", (), ()))),
            ("made k | c", (("made", "k", (("c", ()),), ()),)),
            ("made k | c x number y k | c", (("made", "k", (("c", (("x", "number"), ("y", "k"))), ("c", ())), ()),)),
            ("asked k | f to number | f x k to l",
             (("asked", "k", (("f", (), "number"), ("f", (("x", "k"),), "l")), ()),)),
            ("made k\ndef f to k", (("made", "k", (), (("f", (), "k", ()),)),)),
            ("made k\ndef f x number y k to number | d : 1 | d : x | e : (new k)", (("made", "k", (), (
                ("f", (("x", "number"), ("y", "k")), "number", (("d", ("num", 1)), ("d", ("name", "x")), ("e", ("new", "k", ())))),
            )),)),
            ("asked k\ntab c", (("asked", "k", (), (("c", (), ()),)),)),
            ("asked k\ntab c x number | f : 1\ntab c | f : x", (("asked", "k", (), (
                ("c", (("x", "number"),), (("f", ("num", 1)),)), ("c", (), (("f", ("name", "x")),)),
            )),)),
            ("made k | name num op\ndef num op name to op | name : op", (
                ("made", "k", (("name", (("num", "op"),)),), (("num", (("op", "name"),), "op", (("name", ("name", "op")),)),)),
            )),
        ):
            self.assertEqual(read(text), program)
            self.assertEqual(shown(program), text)
            self.assertEqual(read(text), read(text))

    def test_a_program_of_two_kinds(self):
        program = read(text_of(ROWS))
        self.assertEqual([kind[:2] for kind in program], [("made", "list"), ("asked", "fun")])
        self.assertEqual([[table[0] for table in kind[3]] for kind in program], [["sum", "map"], ["inc", "len"]])
        self.assertEqual(shown(program), text_of(ROWS))

    def test_what_is_no_text_is_refused(self):
        for text, row in REFUSED:
            self.assert_refused(text, row)
            self.assertEqual(first_bad_row(text), row, msg=repr(text))

    def test_cross_rows_that_lack(self):
        self.assert_refused(text_of(ROWS[:6]), 6)
        self.assert_refused(text_of(ROWS[:7]), 7)
        self.assert_refused(text_of(ROWS[:6] + ROWS[7:]), 6)

    def test_cross_rows_too_many(self):
        for row in ROWS + ["cross fun fun 1", "", "x", "made k", "cross fun list 3 ", "cross"]:
            self.assert_refused(text_of(ROWS + [row]), 8)
        self.assert_refused(put_in(7, ROWS[6]), 7)
        self.assert_refused(put_in(6, "cross list list 1"), 6)

    def test_cross_rows_in_another_order(self):
        self.assert_refused(text_of(ROWS[:6] + [ROWS[7], ROWS[6]]), 6)

    def test_cross_rows_with_another_number_or_name(self):
        for row in ("cross list fun 0", "cross list fun 2", "cross list fun 01", "cross list fun", "cross list fun 1 1",
                    "cross fun list 1", "cross list list 1", "cross list fun x", "cross list  fun 1", " cross list fun 1",
                    "cross list fun 1 ", "cross", "crossed list fun 1", ""):
            self.assert_refused(changed(6, row), 6)
        for row in ("cross fun list 2", "cross fun list 4", "cross fun list 30", "cross fun list", "cross list fun 3"):
            self.assert_refused(changed(7, row), 7)

    def test_cross_rows_among_the_kinds(self):
        for at in range(6):
            # Behind the row of fun the first one is due: that behind it can't stand there.
            self.assert_refused(put_in(at, ROWS[6]), at + 1 if at >= 4 else at)
            self.assert_refused(put_in(at, ROWS[7]), at)

    def test_kinds_behind_cross_rows(self):
        for at in (7, 8):
            for row in ("made k", "asked k", "def f to list", "tab c", "x", ""):
                self.assert_refused(put_in(at, row), at)

    def test_cross_rows_are_due_to_the_rows_ahead(self):
        rows = ROWS[:6] + ["made more", "def more to list | none : (ask (make inc) call 1)"]
        self.assert_refused(text_of(rows + ROWS[6:]), 10)
        self.assert_refused(text_of(rows + ROWS[6:] + ["cross more fun 1"]), 10)
        program = read(text_of(rows + ROWS[6:] + ["cross more fun 2"]))
        self.assertEqual([kind[1] for kind in program], ["list", "fun", "more"])

    def test_each_sort_of_row_at_each_place(self):
        sorts = {"made k": "", "asked k": "", "def f to list": "made", "tab c": "asked"}
        for at in range(7):
            side = None if at == 0 else "made" if at <= 3 else "asked"
            for row, behind in sorts.items():
                text = put_in(at, row)
                self.assert_told_as_counted_anew(text)
                if behind and behind != side:
                    self.assert_refused(text, at)

    def assert_told_as_counted_anew(self, text):
        row = first_bad_row(text)
        if row is None:
            self.assertEqual(shown(read(text)), text)
        else:
            self.assert_refused(text, row)

    def test_any_program_is_read_from_its_text(self):
        chance = random.Random(6)
        for k in range(400):
            program = programs.any_program(chance)
            self.assertEqual(read(shown(program)), program)

    def test_texts_with_a_row_or_sign_changed(self):
        chance = random.Random(7)
        read_well = 0
        for k in range(2500):
            rows = shown(programs.any_program(chance)).split("\n")
            at = chance.randrange(len(rows))
            change = chance.randrange(6)
            if change == 0:
                rows = rows[:at] + rows[at + 1:]
            elif change == 1:
                rows.insert(chance.randrange(len(rows) + 1), rows[at])
            elif change == 2:
                other = chance.randrange(len(rows))
                rows[at], rows[other] = rows[other], rows[at]
            elif change == 3:
                rows.insert(at, chance.choice(["", "made k", "asked k", "def f to k", "tab c", "cross a b 1", "x"]))
            else:
                cut = chance.randrange(len(rows[at]) + 1)
                sign = chance.choice(["", " ", "(", ")", "|", ":", "x", "0", " | ", " : ", " to ", "\n"])
                rows[at] = rows[at][:cut] + sign + rows[at][cut + chance.randrange(3):]
            text = text_of(rows)
            read_well += first_bad_row(text) is None
            self.assert_told_as_counted_anew(text)
        self.assertTrue(200 < read_well < 2300)

    def test_the_greatest_numbers_of_the_bounds_and_deep_terms(self):
        names = ["a", "b", "c", "d", "e"]
        fields = " ".join(f"{name} number" for name in "xyz")
        rows = []
        for name in names:
            rows.append(f"made k{name} | " + " | ".join(f"c{name}{other} {fields}" for other in names))
            deep = "(zero 0 " * 39 + "x" + " 1)" * 39
            rows.extend(f"def f{name}{other} u number v number w number to number | "
                        + " | ".join(f"c{name}{one} : {deep}" for one in names) for other in names)
        text = text_of(rows)
        self.assertEqual(shown(read(text)), text)
        text = "made k | c\ndef f to k | c : " + "(make c " * 3000 + "1" + ")" * 3000
        self.assertTrue(shown(read(text)) == text)
        self.assert_refused(text[:-1], 1)
        self.assert_refused(text + ")", 1)
        self.assert_refused("(" * 30000, 0)
        self.assert_refused("\n" * 30000, 0)
