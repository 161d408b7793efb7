import unittest

from coretower import errors
from coretower.errors import CoreError

FIELDS = {
    "BadName": ["name"], "BadNumber": ["number"], "TooLarge": ["bound"], "BadWeb": ["at"], "NoStanding": ["at"],
    "BadRun": ["at"], "NotMet": ["pair", "deed"], "OtherWeb": [], "BadReply": ["at"], "BadTable": ["name"],
    "NoOperation": ["name"], "SameName": ["name"], "OtherNames": [], "BadStep": ["name", "at"], "NoCell": ["name"],
    "NoEnd": ["name"], "BadClient": ["caller"], "BadSetting": ["setting"], "BadPair": ["pair"], "BadFence": ["name"],
    "NoFence": ["name"], "NoRow": ["name"], "BadRow": ["name"], "OtherBook": [], "BadEntry": ["entry"],
    "OtherLocks": [], "BadPool": ["size"], "BadChooser": ["state"], "NotRegular": [], "BadTrace": ["at"],
    "NoRung": ["name"], "NotAtOnce": ["name"], "BadPlace": ["place"], "BadText": ["line"], "NoThing": ["name"],
    "BadAsk": ["line"],
}


class ErrorsTest(unittest.TestCase):
    def test_base_class(self):
        self.assertEqual(CoreError.__bases__, (ValueError,))
        self.assertEqual(CoreError.__module__, "coretower.errors")

    def test_each_error_is_directly_under_the_base_with_just_its_fields(self):
        for name, fields in FIELDS.items():
            with self.subTest(name=name):
                kind = getattr(errors, name)
                self.assertEqual(kind.__bases__, (CoreError,))
                self.assertEqual(kind.__module__, "coretower.errors")
                values = [object() for _ in fields]
                error = kind(*values)
                self.assertEqual(vars(error), dict(zip(fields, values)))
                self.assertEqual(vars(kind(**dict(zip(fields, values)))), dict(zip(fields, values)))
                self.assertTrue(str(error))

    def test_there_are_no_other_errors(self):
        found = {name for name, value in vars(errors).items() if isinstance(value, type)}
        self.assertEqual(found, set(FIELDS) | {"CoreError"})

    def test_an_error_is_raised_and_caught_as_a_value_error(self):
        with self.assertRaises(ValueError) as caught:
            raise errors.BadStep("push", 3)
        self.assertEqual((caught.exception.name, caught.exception.at), ("push", 3))

    def test_deep_values_can_be_fields(self):
        deep = ()
        for _ in range(5000):
            deep = (deep,)
        for kind in (errors.BadName, errors.NoStanding, errors.BadReply, errors.BadTable):
            self.assertTrue(str(kind(deep)))


if __name__ == "__main__":
    unittest.main()
