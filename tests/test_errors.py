"""The refusals: [2] and the interface under cutstairs/errors.py."""

import unittest

from cutstairs import errors

REFUSALS = ("NoText", "NoNumber", "NoCut", "NoPrice", "NoStream", "NoName", "NoFall", "NoShare", "NoPart", "NoTop",
            "NoPlace", "NoTie", "NoUndo", "NoWeb", "NoRow")


class TestRefusals(unittest.TestCase):
    def test_base_is_a_value_error(self):
        self.assertEqual(errors.StairError.__bases__, (ValueError,))

    def test_all_fifteen_are_defined_there(self):
        told = [name for name, thing in vars(errors).items() if isinstance(thing, type) and name != "StairError"]
        self.assertEqual(sorted(told), sorted(REFUSALS))
        for name in REFUSALS + ("StairError",):
            self.assertEqual(getattr(errors, name).__module__, "cutstairs.errors")
            self.assertEqual(getattr(errors, name).__name__, name)

    def test_each_stands_directly_under_the_base(self):
        for name in REFUSALS:
            with self.subTest(name=name):
                self.assertEqual(getattr(errors, name).__bases__, (errors.StairError,))

    def test_none_stands_under_another(self):
        for one in REFUSALS:
            for other in REFUSALS:
                if one != other:
                    self.assertFalse(issubclass(getattr(errors, one), getattr(errors, other)), (one, other))

    def test_each_is_caught_as_base_and_value_error(self):
        for name in REFUSALS:
            refusal = getattr(errors, name)(0) if name == "NoText" else getattr(errors, name)("why")
            for caught in (errors.StairError, ValueError):
                with self.subTest(name=name), self.assertRaises(caught):
                    raise refusal

    def test_the_row_is_a_field(self):
        for row in (0, 1, 24):
            self.assertEqual(errors.NoText(row).row, row)


if __name__ == "__main__":
    unittest.main()
