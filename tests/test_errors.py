"""[2] and the interface: the classes of errors, their bases and their fields."""

import unittest

from crumbjar import errors

CRUMB_ERRORS = {
    "BadHost": "place",
    "BadRules": "index",
    "BadOrigin": "given",
    "BadAddress": "place",
    "BadPath": "given",
    "BadTick": "given",
    "BadLine": "field",
    "BadRequest": "field",
    "BadCrumb": "field",
    "BadLimit": "field",
    "BadCrumbs": "index",
    "BadDevice": "given",
    "BadLedger": "given",
    "BadJar": "given",
    "BadText": "line",
    "BadDeeds": "index",
    "Unlike": "field",
    "BadTable": "index",
    "BadRows": "index",
    "BadShelf": "index",
    "BadWish": "index",
}
ABSENT_ERRORS = {"NoRow": "number", "NoWish": "given"}


class ErrorsTest(unittest.TestCase):
    def check_field(self, name, field, base):
        kind = getattr(errors, name)
        self.assertEqual(kind.__bases__, (base,), name)
        self.assertEqual(kind.__module__, "crumbjar.errors")
        for given in (0, 7, None, "word", (1, 2), [3]):
            self.assertEqual(vars(kind(given)), {field: given})
            self.assertEqual(vars(kind(**{field: given})), {field: given})
        with self.assertRaises(TypeError):
            kind()
        with self.assertRaises(TypeError):
            kind(1, 2)

    def test_bases(self):
        self.assertEqual(errors.CrumbError.__bases__, (ValueError,))
        self.assertEqual(errors.AbsentError.__bases__, (LookupError,))

    def test_crumb_errors(self):
        for name, field in CRUMB_ERRORS.items():
            with self.subTest(name):
                self.check_field(name, field, errors.CrumbError)

    def test_absent_errors(self):
        for name, field in ABSENT_ERRORS.items():
            with self.subTest(name):
                self.check_field(name, field, errors.AbsentError)

    def test_no_page_has_no_field(self):
        self.assertEqual(errors.NoPage.__bases__, (errors.AbsentError,))
        self.assertEqual(vars(errors.NoPage()), {})

    def test_nothing_else_stands_here(self):
        found = {name for name, value in vars(errors).items() if isinstance(value, type)}
        told = {"CrumbError", "AbsentError", "NoPage", *CRUMB_ERRORS, *ABSENT_ERRORS}
        self.assertEqual(found, told)

    def test_a_text_of_an_error_can_be_made(self):
        self.assertIsInstance(str(errors.BadHost(3)), str)
        self.assertIsInstance(str(errors.NoPage()), str)


if __name__ == "__main__":
    unittest.main()
