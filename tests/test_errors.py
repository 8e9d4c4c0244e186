import unittest

from windpoints.errors import NoChain, NoName, NoPath, NoRow, NoTerm, NoText, Stuck

CLASSES = [
    (NoTerm, ValueError, ["at"]),
    (NoName, ValueError, ["at", "name"]),
    (NoPath, LookupError, ["at"]),
    (NoChain, ValueError, ["at"]),
    (NoText, ValueError, ["at"]),
    (NoRow, ValueError, ["at"]),
    (Stuck, RuntimeError, ["word"]),
]


class Errors(unittest.TestCase):
    def test_each_derives_from_its_base_class_directly(self):
        for own, base, _ in CLASSES:
            with self.subTest(own=own.__name__):
                self.assertEqual(own.__bases__, (base,))

    def test_none_is_another_own_class(self):
        for own, _, fields in CLASSES:
            error = own(*fields)
            for other, _, _ in CLASSES:
                with self.subTest(own=own.__name__, other=other.__name__):
                    self.assertEqual(isinstance(error, other), own == other)

    def test_fields_by_places_and_by_names(self):
        for own, _, fields in CLASSES:
            things = [object() for _ in fields]
            for error in (own(*things), own(**dict(zip(fields, things)))):
                with self.subTest(own=own.__name__):
                    self.assertEqual(vars(error), dict(zip(fields, things)))

    def test_they_can_be_raised_and_shown(self):
        for own, base, fields in CLASSES:
            with self.subTest(own=own.__name__):
                with self.assertRaises(base) as caught:
                    raise own(*fields)
                self.assertIsInstance(str(caught.exception), str)


if __name__ == "__main__":
    unittest.main()
