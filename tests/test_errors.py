"""The errors: their family, and the values that they keep."""

import unittest

from pinnedheap import errors
from pinnedheap.errors import HeapError
from tests.samples import shown, values

KEEPING = {
    "BadChain": "chain", "BadPages": "pages", "BadLimit": "limit", "BadRule": "rule", "BadSize": "size",
    "BadState": "value", "BadPlace": "address", "BadAnswer": "value", "BadEvent": "number", "OverLimit": "size",
    "NoRoom": "size", "NoBlock": "address", "TooMany": "limit", "BadText": "row", "BadLine": "line",
}
BARE = ("Safe", "Unsafe", "Finished", "NothingToUndo")


def all_names():
    return (*KEEPING, *BARE)


class Family(unittest.TestCase):
    def test_there_are_nineteen(self):
        self.assertEqual(len(all_names()), 19)

    def test_heap_error_is_directly_below_value_error(self):
        self.assertEqual(HeapError.__bases__, (ValueError,))

    def test_each_error_is_directly_below_heap_error(self):
        for name in all_names():
            with self.subTest(name=name):
                self.assertEqual(getattr(errors, name).__bases__, (HeapError,))
                self.assertEqual(getattr(errors, name).__module__, "pinnedheap.errors")

    def assert_only_of_its_class(self, error, name):
        self.assertIsInstance(error, HeapError)
        self.assertIsInstance(error, ValueError)
        for other in all_names():
            self.assertEqual(isinstance(error, getattr(errors, other)), other == name)

    def test_an_error_is_of_its_own_class_only(self):
        for name in KEEPING:
            with self.subTest(name=name):
                self.assert_only_of_its_class(getattr(errors, name)(1), name)
                self.assert_only_of_its_class(getattr(errors, name)(**{KEEPING[name]: 1}), name)
        for name in BARE:
            with self.subTest(name=name):
                self.assert_only_of_its_class(getattr(errors, name)(), name)


class KeptValues(unittest.TestCase):
    def assert_keeps(self, error, attribute, value, before):
        self.assertIs(getattr(error, attribute), value)
        self.assertEqual(shown(value), before)
        self.assertEqual(list(vars(error)), [attribute])

    def test_values_of_every_kind_by_position_and_by_name(self):
        for name, attribute in KEEPING.items():
            for value in values():
                with self.subTest(name=name, value=shown(value)):
                    before = shown(value)
                    self.assert_keeps(getattr(errors, name)(value), attribute, value, before)
                    self.assert_keeps(getattr(errors, name)(**{attribute: value}), attribute, value, before)

    def test_raised_errors_keep_their_values(self):
        for name, attribute in KEEPING.items():
            for value in values():
                with self.assertRaises(HeapError) as caught:
                    raise getattr(errors, name)(value)
                self.assertIs(getattr(caught.exception, attribute), value)

    def test_a_value_is_needed(self):
        for name in KEEPING:
            with self.subTest(name=name), self.assertRaises(TypeError):
                getattr(errors, name)()

    def test_bare_errors_take_no_value(self):
        for name in BARE:
            with self.subTest(name=name):
                self.assertEqual(vars(getattr(errors, name)()), {})
                with self.assertRaises(TypeError):
                    getattr(errors, name)(1)


if __name__ == "__main__":
    unittest.main()
