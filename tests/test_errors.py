import unittest

from glassladder import errors

WITH_FIELDS = {
    "NoShare": ("thing",), "NoWishes": ("number",), "NoSystem": ("part", "at"), "Barred": ("number",),
    "NoDeeds": ("number",), "NoText": ("row",),
}
OF_A_TEXT = (
    "NoStand", "NoStep", "NoReads", "NoSaying", "NoRound", "NotShown", "NoHelp", "NoLetter", "NoWhy", "NoChange",
    "NoLine",
)
BESIDE = {
    "ByNought": ZeroDivisionError, "Bare": LookupError, "NoName": KeyError, "NoMachine": IndexError,
    "Busy": RuntimeError, "NoNumber": KeyError, "TooMany": OverflowError,
}
FIELDS_BESIDE = {"NoNumber": ("name",), "TooMany": ("many",)}


def named(name):
    return getattr(errors, name)


class Errors(unittest.TestCase):
    def test_bases(self):
        self.assertEqual(errors.GlassError.__bases__, (ValueError,))
        for name in list(WITH_FIELDS) + list(OF_A_TEXT):
            self.assertEqual(named(name).__bases__, (errors.GlassError,), name)
        for name, base in BESIDE.items():
            self.assertEqual(named(name).__bases__, (base,), name)
            self.assertFalse(issubclass(named(name), errors.GlassError), name)

    def test_none_is_under_another_one(self):
        names = list(WITH_FIELDS) + list(OF_A_TEXT) + list(BESIDE)
        for one in names:
            for other in names:
                self.assertEqual(issubclass(named(one), named(other)), one == other, (one, other))

    def test_fields(self):
        for name, fields in {**WITH_FIELDS, **FIELDS_BESIDE}.items():
            for values in ([], ["a"]), (None, 3), ("a", "b"), (0, None):
                values = values[:len(fields)]
                error = named(name)(*values)
                self.assertEqual([getattr(error, field) for field in fields], list(values), name)
                by_name = named(name)(**dict(zip(fields, values)))
                self.assertEqual([getattr(by_name, field) for field in fields], list(values), name)

    def test_values_lack_or_are_too_many(self):
        for name, fields in {**WITH_FIELDS, **FIELDS_BESIDE}.items():
            with self.assertRaises(TypeError):
                named(name)()
            with self.assertRaises(TypeError):
                named(name)(*range(len(fields) + 1))

    def test_of_a_text(self):
        for name in list(OF_A_TEXT) + [one for one in BESIDE if one not in FIELDS_BESIDE]:
            error = named(name)("why it is so")
            self.assertIn("why it is so", str(error), name)
            self.assertEqual(error.args, ("why it is so",), name)

    def test_raised_and_caught(self):
        for name in WITH_FIELDS:
            with self.assertRaises(errors.GlassError):
                raise named(name)(*range(len(WITH_FIELDS[name])))
        with self.assertRaises(KeyError):
            raise errors.NoNumber("x")
        with self.assertRaises(OverflowError):
            raise errors.TooMany(5)


if __name__ == "__main__":
    unittest.main()
