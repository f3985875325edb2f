"""The examples in README.md."""

import doctest
import unittest
from pathlib import Path

README = Path(__file__).parent.parent / "README.md"


class TestReadme(unittest.TestCase):
    def test_examples_tell_what_readme_shows(self):
        told = doctest.testfile(str(README), module_relative=False)
        self.assertGreater(told.attempted, 0)
        self.assertEqual(told.failed, 0)


if __name__ == "__main__":
    unittest.main()
