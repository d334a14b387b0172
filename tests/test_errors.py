import unittest

from openrings import errors
from openrings.errors import RingError
from tests.samples import anything

FIELDS = {
    "BadKind": ("kind",),
    "BadWay": ("way",),
    "BadLine": ("line",),
    "Refused": ("line",),
    "BadRing": ("ring",),
    "BadHanded": ("handed",),
    "BadPromise": ("promise",),
    "NoLine": ("line",),
    "BadSize": ("n",),
    "BadName": ("name",),
    "NoDeed": ("name",),
    "NothingToUndo": (),
    "TooMany": ("what", "many", "most"),
}


class Errors(unittest.TestCase):
    def test_these_are_all(self):
        made = {name for name, value in vars(errors).items() if isinstance(value, type)}
        self.assertEqual(made, set(FIELDS) | {"RingError"})

    def test_places(self):
        self.assertEqual(RingError.__bases__, (ValueError,))
        for name in FIELDS:
            self.assertEqual(getattr(errors, name).__bases__, (RingError,), name)

    def test_fields_by_position(self):
        for name, fields in FIELDS.items():
            for value in anything():
                error = getattr(errors, name)(*[value for _ in fields])
                for field in fields:
                    self.assertIs(getattr(error, field), value)

    def test_fields_by_name(self):
        for name, fields in FIELDS.items():
            for value in anything():
                error = getattr(errors, name)(**{field: value for field in fields})
                for field in fields:
                    self.assertIs(getattr(error, field), value)

    def test_each_field_has_its_own_value(self):
        for error in (errors.TooMany("ifs", 8, 7), errors.TooMany(most=7, what="ifs", many=8)):
            self.assertEqual((error.what, error.many, error.most), ("ifs", 8, 7))

    def test_no_fields_of_their_own(self):
        for name, fields in FIELDS.items():
            error = getattr(errors, name)(*fields)
            self.assertEqual(sorted(vars(error)), sorted(fields))

    def test_raised_and_told(self):
        for name, fields in FIELDS.items():
            with self.assertRaises(ValueError) as caught:
                raise getattr(errors, name)(*[10 ** 6000 for _ in fields])
            self.assertTrue(str(caught.exception))


if __name__ == "__main__":
    unittest.main()
