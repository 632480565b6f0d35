"""Promise [3]: the error classes."""

import copy
import inspect
import pickle
import unittest

from autoclosing import errors

WITH_STRING = (
    "InvalidTextError", "InvalidStateError", "InvalidNumberError", "InvalidKeptError", "InvalidRolesError",
    "InvalidFormatError", "EmptyHistoryError",
)
WITH_INDEX = ("InvalidKeysError", "BlockedKeyError")
WITH_COUNT = ("TooManyStatesError",)


class ErrorClasses(unittest.TestCase):

    def test_the_base_is_a_direct_subclass_of_value_error(self):
        self.assertEqual(errors.AutoclosingError.__bases__, (ValueError,))

    def test_all_others_are_direct_subclasses_of_the_base(self):
        for name in WITH_STRING + WITH_INDEX + WITH_COUNT:
            with self.subTest(name=name):
                self.assertEqual(getattr(errors, name).__bases__, (errors.AutoclosingError,))

    def test_there_are_no_other_classes(self):
        found = [name for name, value in vars(errors).items() if inspect.isclass(value)]
        self.assertEqual(sorted(found), sorted(("AutoclosingError",) + WITH_STRING + WITH_INDEX + WITH_COUNT))

    def test_constructed_with_one_string(self):
        for name in ("AutoclosingError",) + WITH_STRING:
            with self.subTest(name=name):
                self.assertEqual(str(getattr(errors, name)("why")), "why")

    def test_constructed_by_position_or_by_keyword(self):
        for names, attribute in ((WITH_INDEX, "index"), (WITH_COUNT, "count")):
            for name in names:
                for value in (0, 3, 10 ** 30, None):
                    with self.subTest(name=name, value=value):
                        kind = getattr(errors, name)
                        self.assertEqual(vars(kind(value)), {attribute: value})
                        self.assertEqual(vars(kind(**{attribute: value})), {attribute: value})

    def test_constructed_with_exactly_one_value(self):
        for names, attribute in ((WITH_INDEX, "index"), (WITH_COUNT, "count")):
            for name in names:
                with self.subTest(name=name):
                    kind = getattr(errors, name)
                    self.assertRaises(TypeError, kind)
                    self.assertRaises(TypeError, kind, 1, 2)
                    self.assertRaises(TypeError, kind, other=1)

    def test_copies_keep_the_attribute(self):
        error = errors.BlockedKeyError(index=4)
        self.assertEqual(copy.copy(error).index, 4)
        self.assertEqual(pickle.loads(pickle.dumps(error)).index, 4)

    def test_messages_are_strings(self):
        for error in (errors.InvalidKeysError(None), errors.BlockedKeyError(index=2), errors.TooManyStatesError(5)):
            self.assertTrue(str(error))


if __name__ == "__main__":
    unittest.main()
