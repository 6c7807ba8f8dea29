import copy
import pickle
import unittest

from sideturn.errors import (
    NoEdit, NoKind, NoProgram, NoRow, NoTerm, NoText, NotFlat, NoValue, SideError,
)

REFUSALS = (NoText, NoProgram, NoTerm, NoValue, NotFlat, NoKind, NoEdit, NoRow)
MADE = (
    (NoText, (7,), {"row": 7}),
    (NoProgram, ("twice", 3), {"word": "twice", "row": 3}),
    (NoTerm, (), {}),
    (NoValue, (), {}),
    (NotFlat, (2,), {"row": 2}),
    (NoKind, (), {}),
    (NoEdit, (), {}),
    (NoRow, (), {}),
)


class Errors(unittest.TestCase):
    def test_side_error_stands_right_under_value_error(self):
        self.assertEqual(SideError.__bases__, (ValueError,))

    def test_each_refusal_stands_under_side_error_and_none_under_another(self):
        for one in REFUSALS:
            self.assertTrue(issubclass(one, SideError))
            for other in REFUSALS:
                self.assertEqual(issubclass(one, other), one is other)

    def test_fields_are_kept(self):
        for refusal, handed, fields in MADE:
            self.assertEqual(vars(refusal(*handed)), fields)

    def test_each_is_made_with_just_its_fields(self):
        for refusal, handed, fields in MADE:
            with self.assertRaises(TypeError):
                refusal(*handed, 1)
            if handed:
                with self.assertRaises(TypeError):
                    refusal()

    def test_each_is_raised_and_taken(self):
        for refusal, handed, fields in MADE:
            for taken in (refusal, SideError, ValueError):
                with self.assertRaises(taken) as caught:
                    raise refusal(*handed)
                self.assertEqual(vars(caught.exception), fields)

    def test_a_copy_keeps_the_fields(self):
        for refusal, handed, fields in MADE:
            for twin in (copy.copy(refusal(*handed)), pickle.loads(pickle.dumps(refusal(*handed)))):
                self.assertIs(twin.__class__, refusal)
                self.assertEqual(vars(twin), fields)
