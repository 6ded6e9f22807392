"""The refusals, as the interface lists them."""

import unittest

from owedonce import errors

WITH_FIELD = {"NoText": "at", "Stuck": "number", "Lost": "number", "Missing": "place",
              "NoKept": "name", "NoRow": "row"}
WITHOUT = ("TooMany", "NoProgram", "NoDeed")


class ErrorsTest(unittest.TestCase):

    def test_all_stand_beneath_owed_error_and_none_beneath_another(self):
        self.assertTrue(issubclass(errors.OwedError, ValueError))
        for name in (*WITH_FIELD, *WITHOUT):
            above = [one.__name__ for one in getattr(errors, name).__mro__]
            self.assertEqual(above[:3], [name, "OwedError", "ValueError"])

    def test_each_has_its_field_whatever_it_is(self):
        for name, field in WITH_FIELD.items():
            for worth in (0, 17, (), (1, 2), "abc", "", None, [1]):
                one = getattr(errors, name)(worth)
                self.assertEqual(getattr(one, field), worth)
                self.assertEqual(getattr(getattr(errors, name)(**{field: worth}), field), worth)

    def test_a_field_is_needed_or_there_is_none(self):
        for name in WITH_FIELD:
            with self.assertRaises(TypeError):
                getattr(errors, name)()
        for name in WITHOUT:
            self.assertIsInstance(getattr(errors, name)(), errors.OwedError)
