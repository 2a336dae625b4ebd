"""That the examples of README.md, and those of the document in examples.txt, hold."""

import doctest
import os
import unittest

TESTS = os.path.dirname(os.path.abspath(__file__))


class ExampleTests(unittest.TestCase):
    def holds(self, path, least):
        failed, tried = doctest.testfile(path, module_relative=False, encoding="utf-8")
        self.assertEqual(failed, 0)
        self.assertGreater(tried, least)

    def test_readme(self):
        self.holds(os.path.join(os.path.dirname(TESTS), "README.md"), 5)

    def test_document(self):
        self.holds(os.path.join(TESTS, "examples.txt"), 40)


if __name__ == "__main__":
    unittest.main()
