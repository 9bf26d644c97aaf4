"""The interface's section aliasfold/errors.py."""

import unittest

from aliasfold import errors

WITH_AT = ["UnexpectedEnd", "UnexpectedClose", "InvalidWord"]
PLAIN = ["TooDeep", "TooLarge", "InvalidCore", "InvalidUnit", "InvalidForm", "InvalidRule", "ModuleRing"]
WITH_NAME = ["UnknownName", "DuplicateName", "MisusedName", "NoMatchingRule", "OutOfFuel", "UnknownModule"]


class ErrorsTest(unittest.TestCase):
    def test_base_class(self):
        self.assertEqual(errors.FoldError.__bases__, (ValueError,))

    def test_each_class_is_directly_under_the_base_and_stands_in_its_file(self):
        for name in WITH_AT + PLAIN + WITH_NAME:
            with self.subTest(name=name):
                cls = getattr(errors, name)
                self.assertEqual(cls.__name__, name)
                self.assertEqual(cls.__module__, "aliasfold.errors")
                self.assertEqual(cls.__bases__, (errors.FoldError,))

    def test_field_at(self):
        for name in WITH_AT:
            with self.subTest(name=name):
                cls = getattr(errors, name)
                self.assertEqual(cls(0).at, 0)
                self.assertEqual(cls(17).at, 17)
                self.assertNotEqual(str(cls(17)), "")

    def test_field_name(self):
        for name in WITH_NAME:
            with self.subTest(name=name):
                cls = getattr(errors, name)
                self.assertEqual(cls("x").name, "x")
                self.assertEqual(cls("...").name, "...")
                self.assertNotEqual(str(cls("x")), "")

    def test_the_field_belongs_to_each_object(self):
        first, second = errors.UnknownName("a"), errors.UnknownName("b")
        self.assertEqual((first.name, second.name), ("a", "b"))

    def test_classes_without_fields_can_be_raised_and_caught(self):
        for name in PLAIN:
            with self.subTest(name=name):
                with self.assertRaises(errors.FoldError) as caught:
                    raise getattr(errors, name)("why")
                self.assertEqual(caught.exception.__class__.__name__, name)


if __name__ == "__main__":
    unittest.main()
