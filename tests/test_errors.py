import copy
import pickle
import unittest

from beltshift import errors

FIELDS = {
    "NoText": ("row",),
    "NoRoom": ("word", "at"),
    "NoFormula": ("word", "name"),
    "NoShift": ("word", "at"),
    "NotReady": ("hand",),
    "NoName": ("name",),
    "NoRow": (),
}
GIVEN = [("ring", (3,)), (0, ()), (None, "a"), ((1, ("b", 2)), 10 ** 5000), (True, None), ("", -1)]


def refusal(word):
    return getattr(errors, word)


def made(word, given):
    return refusal(word)(*given[: len(FIELDS[word])])


class Errors(unittest.TestCase):
    def test_fields_are_what_it_was_made_with(self):
        for word, fields in FIELDS.items():
            for given in GIVEN:
                error = made(word, given)
                for field, thing in zip(fields, given):
                    self.assertIs(getattr(error, field), thing)

    def test_fields_stay_behind_a_second_one(self):
        for word, fields in FIELDS.items():
            first = made(word, ("one", (1,)))
            made(word, ("other", (2,)))
            for field, thing in zip(fields, ("one", (1,))):
                self.assertEqual(getattr(first, field), thing)

    def test_made_with_just_so_many(self):
        for word, fields in FIELDS.items():
            if fields:
                with self.assertRaises(TypeError):
                    refusal(word)()
                with self.assertRaises(TypeError):
                    refusal(word)(*range(len(fields) + 1))

    def test_right_under_belt_error_and_none_under_another(self):
        self.assertEqual(errors.BeltError.__bases__, (ValueError,))
        for word in FIELDS:
            self.assertEqual(refusal(word).__bases__, (errors.BeltError,))
            error = made(word, ("word", ()))
            self.assertIs(type(error), refusal(word))
            self.assertIsInstance(error, ValueError)
            for other in FIELDS:
                self.assertEqual(isinstance(error, refusal(other)), other == word)

    def test_caught_by_its_class_and_by_belt_error(self):
        for word in FIELDS:
            for catching in (refusal(word), errors.BeltError, ValueError):
                error = made(word, ("word", (1, 2)))
                with self.assertRaises(catching) as caught:
                    raise error
                self.assertIs(caught.exception, error)

    def test_shown_and_copied(self):
        for word, fields in FIELDS.items():
            error = made(word, ("ring", (3,)))
            self.assertIsInstance(str(error), str)
            for again in (copy.copy(error), pickle.loads(pickle.dumps(error))):
                self.assertIs(type(again), refusal(word))
                for field in fields:
                    self.assertEqual(getattr(again, field), getattr(error, field))
