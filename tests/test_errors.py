import unittest

from helpers import Case
from minusless import errors
from minusless.errors import MinusError

NAMES = {
    "BadNumber": ("place",), "BadTable": ("row",), "BadBox": ("row", "column"), "BadBlank": ("row", "column"),
    "BadLot": ("place",), "OtherSize": ("one", "other"), "NotSquare": ("high", "wide"), "NoTurning": (),
    "TooMany": ("bound",), "BadText": ("line",), "BadChip": ("place",), "BadStair": ("row", "column"),
    "NotGood": ("row", "column"), "BadStep": ("place",), "NoStep": (), "BadCode": ("place",), "BadWord": ("place",),
    "BadWant": ("word",), "NoFilling": ("rows", "columns"), "BadDeed": ("word",), "Ended": (),
}


class Errors(Case):
    def test_each_class_stands_directly_under_the_base(self):
        self.assertEqual(MinusError.__bases__, (ValueError,))
        for name in NAMES:
            self.assertEqual(getattr(errors, name).__bases__, (MinusError,), name)

    def test_there_are_no_other_classes(self):
        found = {name for name, value in vars(errors).items() if isinstance(value, type)}
        self.assertEqual(found, set(NAMES) | {"MinusError"})

    def test_attributes_in_their_order(self):
        for name, attributes in NAMES.items():
            values = [object() for _ in attributes]
            error = getattr(errors, name)(*values)
            self.assertEqual(list(vars(error)), list(attributes))
            for attribute, value in zip(attributes, values):
                self.assertIs(getattr(error, attribute), value)

    def test_attributes_by_name(self):
        for name, attributes in NAMES.items():
            values = {attribute: object() for attribute in attributes}
            self.assertEqual(vars(getattr(errors, name)(**values)), values)

    def test_values_that_cannot_be_written_are_held(self):
        self.assertEqual(errors.BadBox(10 ** 5000, 0).row, 10 ** 5000)

    def test_the_base_can_be_raised(self):
        with self.assertRaises(ValueError):
            raise MinusError()


if __name__ == "__main__":
    unittest.main()
