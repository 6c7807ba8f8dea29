import random
import unittest

import samples
from sideturn.values import deep, size

NIL = ("made", "nil", ())


def any_value(chance, most):
    if most == 0 or chance.randrange(4) == 0:
        return chance.randrange(1000000)
    name = samples.pick(chance, ("c", "d", (3, 0), (12, 11)))
    word = "asked" if isinstance(name, tuple) else samples.pick(chance, ("made", "asked"))
    return (word, name, tuple(any_value(chance, most - 1) for k in range(chance.randrange(4))))


def things_in(value):
    """How many words stand in a value: one for each thing, and none for numbers."""
    return repr(value).count("'made'") + repr(value).count("'asked'")


def deepest_in(value):
    return 0 if isinstance(value, int) else 1 + max([deepest_in(part) for part in value[2]] + [0])


class Values(unittest.TestCase):
    def test_of_a_number_both_are_0(self):
        for number in (0, 1, 999999):
            self.assertEqual((size(number), deep(number)), (0, 0))

    def test_things(self):
        for value, told in (
            (NIL, (1, 1)),
            (("asked", (3, 0), ()), (1, 1)),
            (("made", "c", (1, 2, 3)), (1, 1)),
            (("made", "c", (NIL, 2)), (2, 2)),
            (("made", "c", (NIL, NIL, NIL)), (4, 2)),
            (("asked", "c", (("asked", (1, 0), (NIL, 7)), NIL)), (4, 3)),
            (("asked", "c", (NIL, ("made", "d", (("made", "d", (NIL,)),)))), (5, 4)),
        ):
            self.assertEqual((size(value), deep(value)), told)

    def test_each_as_often_as_it_stands_there(self):
        value = NIL
        for k in range(7):
            value = ("made", "two", (value, value))
        self.assertEqual((size(value), deep(value)), (255, 8))

    def test_values_at_their_bounds_and_beyond(self):
        for many in (59, 60, 61, 199, 200, 201, 3000):
            value = 5
            for k in range(many):
                value = ("made", "c", (value,))
            self.assertEqual((size(value), deep(value)), (many, many))
        self.assertEqual(size(("made", "c", (NIL,) * 199)), 200)

    def test_held_against_another_count(self):
        chance = random.Random(5)
        for k in range(400):
            value = any_value(chance, 5)
            self.assertEqual((size(value), deep(value)), (things_in(value), deepest_in(value)))
