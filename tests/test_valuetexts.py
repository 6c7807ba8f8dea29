import random
import unittest

import programs
from samples import pick
from sideturn.errors import NoValue
from sideturn.grid import makers_of, side_of
from sideturn.valuetexts import read_value, show_value

PROGRAM = programs.program_of("""made list | nil | cons head number tail list | of fun fun
def sum to number
asked fun | call arg number to number
tab inc
tab both one fun two fun
tab keep n number l list
made none
made pair | pair one list two list""")
INC = ("asked", "inc", ())
NIL = ("made", "nil", ())

TEXTS = (
    ("number", "0", 0), ("number", "7", 7), ("number", "10", 10), ("number", "999999", 999999),
    ("list", "nil()", NIL),
    ("list", "cons(0,nil())", ("made", "cons", (0, NIL))),
    ("list", "cons(12,cons(999999,nil()))", ("made", "cons", (12, ("made", "cons", (999999, NIL))))),
    ("list", "of([inc])", ("made", "of", (INC,))),
    ("fun", "[inc]", INC),
    ("fun", "[both [inc] [both [inc] [inc]]]", ("asked", "both", (INC, ("asked", "both", (INC, INC))))),
    ("fun", "[keep 5 cons(1,of([keep 0 nil()]))]",
     ("asked", "keep", (5, ("made", "cons", (1, ("made", "of", (("asked", "keep", (0, NIL)),))))))),
    ("pair", "pair(nil(),cons(3,nil()))", ("made", "pair", (NIL, ("made", "cons", (3, NIL))))),
)

NEARLY = (
    # numbers
    ("number", ""), ("number", "00"), ("number", "01"), ("number", "1000000"), ("number", "0000001"), ("number", "-1"),
    ("number", "+1"), ("number", " 1"), ("number", "1 "), ("number", "1\n"), ("number", "1.0"), ("number", "1_0"),
    ("number", "x"), ("number", "nil()"), ("number", "[inc]"), ("number", "(1)"), ("number", "\u0661"), ("number", "\u00b2"),
    # a nought ahead, within
    ("list", "cons(00,nil())"), ("list", "cons(01,nil())"), ("fun", "[keep 05 nil()]"),
    # a blank too many, or one too few
    ("list", " nil()"), ("list", "nil() "), ("list", "nil( )"), ("list", "nil ()"), ("list", "cons(1, nil())"),
    ("list", "cons( 1,nil())"), ("list", "cons(1 ,nil())"), ("list", "cons(1,nil() )"), ("list", "cons(1 nil())"),
    ("fun", "[ inc]"), ("fun", "[inc ]"), ("fun", " [inc]"), ("fun", "[inc] "), ("fun", "[both [inc]  [inc]]"),
    ("fun", "[both [inc][inc]]"), ("fun", "[both[inc] [inc]]"), ("fun", "[both [inc],[inc]]"), ("fun", "[both [inc] [inc] ]"),
    ("list", "nil()\n"), ("fun", "[inc]\n"), ("fun", "[both [inc]\n[inc]]"),
    # a wrong bracket, one that lacks, one too many
    ("list", "nil"), ("list", "nil("), ("list", "nil)"), ("list", "nil[]"), ("list", "(nil)"), ("list", "nil())"),
    ("list", "(nil())"), ("list", "nil(]"), ("list", "cons(1,nil()"), ("list", "cons(1,nil)"), ("list", "cons(1,nil()))"),
    ("fun", "inc"), ("fun", "[inc"), ("fun", "inc]"), ("fun", "[inc]]"), ("fun", "[[inc]]"), ("fun", "(inc)"), ("fun", "[inc)"),
    ("fun", "[inc()]"), ("fun", "[both [inc] [inc]"), ("fun", "[both [inc] inc]"), ("list", ""), ("fun", ""), ("fun", "[]"),
    ("list", "()"),
    # the other side's brackets
    ("list", "[nil]"), ("list", "[cons 1 nil()]"), ("list", "cons(1,[nil])"), ("list", "of(inc())"), ("fun", "inc()"),
    ("fun", "both([inc],[inc])"), ("fun", "[both [inc] inc()]"), ("fun", "[keep 1 [nil]]"),
    # a part too few or too many, or none between the signs
    ("list", "cons()"), ("list", "cons(1)"), ("list", "cons(1,nil(),1)"), ("list", "cons(1,nil(),)"), ("list", "cons(,nil())"),
    ("list", "cons(1,)"), ("list", "cons(,)"), ("list", "nil(0)"), ("list", "nil(,)"), ("list", "cons(1,,nil())"),
    ("fun", "[both]"), ("fun", "[both [inc]]"), ("fun", "[both [inc] [inc] [inc]]"), ("fun", "[inc 0]"), ("fun", "[inc [inc]]"),
    # parts of another kind
    ("list", "cons(nil(),nil())"), ("list", "cons(1,2)"), ("list", "cons(nil(),1)"), ("list", "cons(1,[inc])"),
    ("list", "of(nil())"), ("list", "of(0)"), ("fun", "[keep nil() 1]"), ("fun", "[both 1 [inc]]"),
    # a maker of another kind, or of none
    ("list", "pair(nil(),nil())"), ("pair", "nil()"), ("fun", "nil()"), ("list", "[inc]"), ("list", "inc()"), ("fun", "[nil]"),
    ("list", "cons(1,pair(nil(),nil()))"), ("none", "nil()"), ("none", ""), ("none", "none()"), ("list", "nill()"),
    ("list", "ni()"), ("list", "Nil()"), ("list", "sum()"), ("fun", "[call]"), ("list", "list()"), ("list", "0"), ("fun", "7"),
    # two values
    ("list", "nil()nil()"), ("list", "nil(),nil()"), ("fun", "[inc] [inc]"), ("number", "1 2"), ("number", "1,2"),
    # places
    ("fun", "[3.0]"), ("fun", "[3.0 1]"), ("fun", "[both [inc] [0.0]]"), ("list", "3.0()"), ("list", "3.0"),
    # a kind that isn't there
    ("lists", "nil()"), ("cons", "nil()"), ("x", "0"), ("sum", "0"), ("lis", "nil()"), ("x", ""),
)


def any_value(chance, kind, most):
    """A value of the kind, or None where none was found."""
    if kind == "number":
        return pick(chance, (0, 1, 10, 999999, chance.randrange(1000000)))
    makers = makers_of(PROGRAM, kind)
    if not makers or most == 0:
        return None
    maker, fields = pick(chance, makers)
    parts = tuple(any_value(chance, field[1], most - 1) for field in fields)
    return None if None in parts else (side_of(PROGRAM, kind), maker, parts)


class ValueTexts(unittest.TestCase):
    def test_shown_and_read_again(self):
        for kind, text, value in TEXTS:
            self.assertEqual(show_value(value), text)
            self.assertEqual(read_value(PROGRAM, kind, text), value)

    def test_places_are_shown(self):
        for value, text in (
            (("asked", (3, 0), ()), "[3.0]"), (("asked", (12, 10), (1, ("asked", (0, 1), (NIL,)))), "[12.10 1 [0.1 nil()]]"),
            (("made", "cons", (1, ("asked", (3, 2), (INC, 7)))), "cons(1,[3.2 [inc] 7])"),
        ):
            self.assertEqual(show_value(value), text)

    def test_a_number_read_is_a_whole_number(self):
        self.assertIs(type(read_value(PROGRAM, "number", "7")), int)

    def test_what_is_nearly_a_value(self):
        for kind, text in NEARLY:
            with self.assertRaises(NoValue, msg=(kind, text)):
                read_value(PROGRAM, kind, text)

    def test_values_of_one_kind_are_none_of_another(self):
        for kind, text, value in TEXTS:
            for other in ("number", "list", "fun", "pair", "none", "nokind"):
                if other != kind:
                    with self.assertRaises(NoValue, msg=(other, text)):
                        read_value(PROGRAM, other, text)

    def test_any_values(self):
        chance = random.Random(6)
        seen = 0
        for k in range(2000):
            kind = pick(chance, ("number", "list", "fun", "pair", "none"))
            value = any_value(chance, kind, 6)
            if value is not None:
                seen += 1
                self.assertEqual(read_value(PROGRAM, kind, show_value(value)), value)
        self.assertGreater(seen, 500)

    def test_changed_texts_are_refused_or_have_a_value_of_their_own(self):
        chance = random.Random(7)
        refused = 0
        for k in range(4000):
            kind, text, value = pick(chance, TEXTS)
            at, many = chance.randrange(len(text) + 1), chance.randrange(2)
            changed = text[:at] + pick(chance, ("", *"()[], 019inlcos.|")) + text[at + many:]
            try:
                self.assertEqual(show_value(read_value(PROGRAM, kind, changed)), changed)
            except NoValue:
                refused += 1
        self.assertGreater(refused, 2000)

    def test_deep_values(self):
        text = "cons(1," * 3000 + "nil()" + ")" * 3000
        self.assertEqual(show_value(read_value(PROGRAM, "list", text)), text)
        with self.assertRaises(NoValue):
            read_value(PROGRAM, "list", text[:-1])

    def test_a_program_without_kinds(self):
        self.assertEqual(read_value((), "number", "5"), 5)
        with self.assertRaises(NoValue):
            read_value((), "k", "5")
