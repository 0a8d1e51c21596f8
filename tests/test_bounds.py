import unittest

from coincounters import bounds

VALUES = {
    "LIMIT": 1000000000000,
    "MAX_KINDS": 4,
    "MAX_RATE": 5,
    "MAX_COUNTERS": 8,
    "MAX_ROUTE": 200,
    "SMALL_ROUTE": 3,
    "SMALL_STEPS": 6,
    "MAX_LOOP": 4,
    "MAX_EDITS": 60,
    "BATCH": 20,
}


class BoundsTest(unittest.TestCase):
    def test_each_name_has_its_value(self):
        for name, value in VALUES.items():
            with self.subTest(name=name):
                self.assertEqual(getattr(bounds, name), value)
                self.assertIs(type(getattr(bounds, name)), int)


if __name__ == "__main__":
    unittest.main()
