"""What README.md shows is so."""

import doctest
import os
import unittest

README = os.path.join(os.path.dirname(os.path.dirname(os.path.abspath(__file__))), "README.md")


class Readme(unittest.TestCase):
    def test_examples(self):
        failed, tried = doctest.testfile(README, module_relative=False, encoding="utf-8")
        self.assertEqual(failed, 0)
        self.assertLess(20, tried)


if __name__ == "__main__":
    unittest.main()
