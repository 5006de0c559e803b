import doctest
import unittest
from pathlib import Path

README = Path(__file__).resolve().parent.parent / "README.md"


class TestReadme(unittest.TestCase):
    def test_its_examples_hold(self):
        told = doctest.testfile(str(README), module_relative=False)
        self.assertGreater(told.attempted, 10)
        self.assertEqual(told.failed, 0)


if __name__ == "__main__":
    unittest.main()
