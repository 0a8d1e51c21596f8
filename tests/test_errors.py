import unittest

from coincounters import errors

COIN_ERRORS = {
    "BadRoute": ("index",),
    "TooLong": ("bound",),
    "TooMany": ("bound",),
    "TooManyCounters": (),
    "TooManyKinds": (),
    "BadBoard": ("error",),
    "BadAmount": ("value",),
    "Busy": (),
    "TooManyEdits": (),
    "WrongKind": ("source",),
    "TooMuch": ("coins",),
    "BadCoins": ("value",),
    "BadCounter": ("value",),
    "NothingToUndo": (),
    "BadEdits": (),
    "BadEdit": ("index",),
    "Rejected": ("index",),
    "OverCap": ("coins",),
    "BadText": ("index",),
}
LOOKUP_ERRORS = {"NoKind": ("value",), "NoCounter": ("value",), "NoVersion": ("value",)}
ALL_ERRORS = {**COIN_ERRORS, **LOOKUP_ERRORS}

FIELD_VALUES = [
    None, True, False, 0, 1, -1, 10 ** 39, "", "text", "{} \\ \n", (), (None, "board"), (0, "counter"),
    [1, [2]], {"a": [()]}, object(),
]


class ErrorsTest(unittest.TestCase):
    def test_fields_are_what_was_passed(self):
        for name, fields in ALL_ERRORS.items():
            if not fields:
                continue
            for value in FIELD_VALUES:
                with self.subTest(name=name, value=value):
                    error = getattr(errors, name)(value)
                    self.assertIs(getattr(error, fields[0]), value)

    def test_fields_are_those_and_no_others(self):
        for name, fields in ALL_ERRORS.items():
            with self.subTest(name=name):
                error = getattr(errors, name)(*[7 for field in fields])
                self.assertEqual(vars(error), {field: 7 for field in fields})

    def test_two_errors_do_not_share_fields(self):
        for name, fields in ALL_ERRORS.items():
            for field in fields:
                with self.subTest(name=name):
                    first, second = getattr(errors, name)(1), getattr(errors, name)(2)
                    self.assertEqual((getattr(first, field), getattr(second, field)), (1, 2))

    def test_a_field_that_is_missing_is_an_error(self):
        for name, fields in ALL_ERRORS.items():
            if fields:
                with self.subTest(name=name), self.assertRaises(TypeError):
                    getattr(errors, name)()

    def test_each_can_be_raised_and_caught(self):
        for name, fields in ALL_ERRORS.items():
            with self.subTest(name=name):
                kind = getattr(errors, name)
                with self.assertRaises(kind) as caught:
                    raise kind(*[(3, "x") for field in fields])
                self.assertIs(type(caught.exception), kind)
                self.assertIsInstance(str(caught.exception), str)

    def test_coin_error_is_a_value_error(self):
        self.assertTrue(issubclass(errors.CoinError, ValueError))
        self.assertFalse(issubclass(errors.CoinError, LookupError))

    def test_coin_error_is_the_base_of_its_errors(self):
        for name in COIN_ERRORS:
            with self.subTest(name=name):
                self.assertTrue(issubclass(getattr(errors, name), errors.CoinError))
                self.assertFalse(issubclass(getattr(errors, name), LookupError))

    def test_failed_look_ups_are_lookup_errors_only(self):
        for name in LOOKUP_ERRORS:
            with self.subTest(name=name):
                self.assertTrue(issubclass(getattr(errors, name), LookupError))
                self.assertFalse(issubclass(getattr(errors, name), ValueError))
                self.assertFalse(issubclass(getattr(errors, name), (KeyError, IndexError)))

    def test_no_error_derives_from_another_one(self):
        for name in ALL_ERRORS:
            for other in ALL_ERRORS:
                if name != other:
                    with self.subTest(name=name, other=other):
                        self.assertFalse(issubclass(getattr(errors, name), getattr(errors, other)))

    def test_each_is_defined_in_its_file(self):
        for name in ("CoinError", *ALL_ERRORS):
            with self.subTest(name=name):
                self.assertEqual(getattr(errors, name).__module__, "coincounters.errors")
                self.assertEqual(getattr(errors, name).__name__, name)


if __name__ == "__main__":
    unittest.main()
