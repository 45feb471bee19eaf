"""The interface of ownwords/errors.py: the error classes, their bases and their fields."""

import unittest

from ownwords import errors

CLASSES = {
    "NoHistory": (ValueError, ("at",)),
    "NoBook": (ValueError, ("name", "row")),
    "NoPlace": (LookupError, ("place",)),
    "NoRow": (LookupError, ("row",)),
    "NoName": (LookupError, ("name",)),
    "NoWorld": (ValueError, ("paper",)),
    "NoSorting": (ValueError, ("sorting",)),
    "NoSheets": (ValueError, ("k", "shifts")),
    "TooMany": (ValueError, ("many",)),
}


class ErrorsTest(unittest.TestCase):
    def test_every_class_stands_in_the_file_with_its_base(self):
        for name, (base, _) in CLASSES.items():
            with self.subTest(name):
                error = getattr(errors, name)
                self.assertEqual(error.__module__, "ownwords.errors")
                self.assertEqual(error.__bases__, (base,))

    def test_fields_are_set_when_an_error_is_created(self):
        for name, (_, fields) in CLASSES.items():
            with self.subTest(name):
                values = {field: [field] for field in fields}
                error = getattr(errors, name)(**values)
                for field in fields:
                    self.assertIs(getattr(error, field), values[field])

    def test_errors_of_one_base_are_not_caught_as_each_other(self):
        found = [getattr(errors, name) for name in CLASSES]
        for one in found:
            for other in found:
                self.assertEqual(issubclass(one, other), one is other)

    def test_an_error_is_written_out_whatever_its_fields_are(self):
        deep = ()
        for _ in range(900):
            deep = (deep, 10 ** 4299)
        for name, (_, fields) in CLASSES.items():
            with self.subTest(name):
                text = str(getattr(errors, name)(**{field: deep for field in fields}))
                self.assertTrue(0 < len(text) < 200)


if __name__ == "__main__":
    unittest.main()
