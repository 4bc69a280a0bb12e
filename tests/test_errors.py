"""[3]: the error classes and the limits."""

import unittest

from solidnames import errors, limits

FIELDS = {
    ValueError: {
        "InvalidBox": ["value"], "InvalidAxis": ["value"], "InvalidNumber": ["value"], "InvalidName": ["value"],
        "InvalidPick": ["value"], "OutOfBounds": [], "ParseError": ["index"], "NotLinear": ["name"],
        "Ring": ["names"], "InUse": ["name"], "InvalidOutline": ["index"], "InvalidDimension": ["index"],
        "InvalidFront": ["value"], "InvalidFeature": ["part"], "DuplicateName": ["name"], "InvalidIndex": ["value"],
        "InvalidSide": ["value"], "NoCells": [], "Overlapping": ["cell"], "InvalidText": ["value"],
        "InvalidKind": ["value"], "NotDone": ["name"], "CommandError": ["value"]},
    LookupError: {"NotSurface": ["cell", "side"], "NothingToUndo": [], "NothingToRedo": []},
    OverflowError: {"TooMany": ["limit"]},
    ArithmeticError: {"Failed": ["word"]},
    KeyError: {"UnknownName": ["name"], "UnknownSide": ["name"]},
    TypeError: {"NotFeature": ["value"], "NotFlag": ["value"]},
}
VALUES = [None, True, 7, 10 ** 999, "text\n", (), [1, [2]], {"a": {"b": ()}}, errors.NoCells()]


class ErrorTest(unittest.TestCase):
    def classes(self):
        for base, table in FIELDS.items():
            for name, fields in table.items():
                yield base, getattr(errors, name), fields

    def test_each_is_a_direct_subclass_of_the_one_named(self):
        for base, error, _ in self.classes():
            self.assertEqual(error.__bases__, (base,), error)
            self.assertEqual(error.__module__, "solidnames.errors")

    def test_fields_by_position_and_by_name(self):
        for _, error, fields in self.classes():
            for value in VALUES:
                passed = [value, *VALUES][:len(fields)]
                one, other = error(*passed), error(**dict(zip(fields, passed)))
                for made in (one, other):
                    self.assertEqual([getattr(made, field) for field in fields], passed)
                    self.assertIsInstance(str(made), str)

    def test_no_more_and_no_fewer_fields(self):
        for _, error, fields in self.classes():
            with self.assertRaises(TypeError):
                error(*[1] * (len(fields) + 1))
            if fields:
                with self.assertRaises(TypeError):
                    error()

    def test_limits(self):
        self.assertEqual(
            [limits.LIMIT, limits.LINES, limits.MAX_FEATURES, limits.MAX_COPIES, limits.MAX_SOLIDS],
            [10 ** 30, 20, 12, 16, 8])


if __name__ == "__main__":
    unittest.main()
