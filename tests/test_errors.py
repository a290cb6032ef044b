"""The errors: their fields, their groups, and that no other stands above or below them."""

import unittest

from rowvault import errors
from tests.helpers import any_values

PART = "Shape Table Part Question Span Kind Layout Rule Plan Poly Sites Order Vault Book"
VALUE = "Place Amount Unit Count Name"
FIELDS = {
    "VaultError": (ValueError, ()), "BadInput": ("VaultError", ()), "Refused": ("VaultError", ()),
    "NoAnswer": ("VaultError", ()), "BadText": ("BadInput", ("line", "word")), "BadLine": ("BadInput", ("word",)),
    "TooMany": ("Refused", ("what", "most")), "Untold": ("Refused", ("paper",)), "Gone": ("Refused", ("unit",)),
    "Torn": ("Refused", ()), "Taken": ("Refused", ("name",)), "NoUnit": ("NoAnswer", ("unit",)),
    "NoName": ("NoAnswer", ("name",)), "NoDeed": ("NoAnswer", ()),
}
FIELDS.update({f"Bad{word}": ("BadInput", ("part",)) for word in PART.split()})
FIELDS.update({f"Bad{word}": ("BadInput", ("value",)) for word in VALUE.split()})


class Errors(unittest.TestCase):
    def test_just_these_classes(self):
        classes = {name: one for name, one in vars(errors).items() if isinstance(one, type)}
        self.assertEqual(set(classes), set(FIELDS))
        for one in classes.values():
            self.assertEqual(one.__module__, "rowvault.errors")

    def test_bases(self):
        for name, (base, _) in FIELDS.items():
            above = base if isinstance(base, type) else getattr(errors, base)
            self.assertEqual(getattr(errors, name).__bases__, (above,))

    def test_fields(self):
        values = any_values()
        for name, (_, fields) in FIELDS.items():
            error = getattr(errors, name)
            for at in range(len(values)):
                given = [values[(at + k) % len(values)] for k in range(len(fields))]
                for made in (error(*given), error(**dict(zip(fields, given)))):
                    self.assertEqual(tuple(vars(made)), fields)
                    for field, value in zip(fields, given):
                        self.assertIs(getattr(made, field), value)

    def test_too_few_and_too_many(self):
        for name, (_, fields) in FIELDS.items():
            error = getattr(errors, name)
            if fields:
                with self.assertRaises(TypeError):
                    error(*[1] * (len(fields) - 1))
                with self.assertRaises(TypeError):
                    error(*[1] * (len(fields) + 1))

    def test_caught_by_group(self):
        with self.assertRaises(errors.VaultError):
            raise errors.BadUnit("x")
        with self.assertRaises(ValueError):
            raise errors.NoDeed()
        self.assertFalse(issubclass(errors.Gone, errors.BadInput))


if __name__ == "__main__":
    unittest.main()
