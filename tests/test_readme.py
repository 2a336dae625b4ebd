"""That the examples of README.md, and those of the document in examples.txt, hold."""

import doctest
import os
import unittest

TESTS = os.path.dirname(os.path.abspath(__file__))


def examples_in(path):
    with open(path, encoding="utf-8") as file:
        return [(each.source, each.want) for each in doctest.DocTestParser().get_examples(file.read())]


class ExampleTests(unittest.TestCase):
    def holds(self, path, least):
        failed, tried = doctest.testfile(path, module_relative=False, encoding="utf-8")
        self.assertEqual(failed, 0)
        self.assertGreater(tried, least)

    def test_readme(self):
        self.holds(os.path.join(os.path.dirname(TESTS), "README.md"), 5)

    def test_document(self):
        self.holds(os.path.join(TESTS, "examples.txt"), 60)

    def test_examples_stand_as_in_the_document(self):
        path = os.path.join(os.path.dirname(os.path.dirname(TESTS)), "shared", "DOC.md")
        if os.path.exists(path):
            self.assertEqual(examples_in(path), examples_in(os.path.join(TESTS, "examples.txt")))


if __name__ == "__main__":
    unittest.main()
