"""The examples of README.md, in one session."""

import doctest
import pathlib
import unittest

README = pathlib.Path(__file__).parent.parent / "README.md"


class ReadmeTest(unittest.TestCase):
    def test_examples(self):
        results = doctest.testfile(str(README), module_relative=False)
        self.assertGreater(results.attempted, 20)
        self.assertEqual(results.failed, 0)


if __name__ == "__main__":
    unittest.main()
