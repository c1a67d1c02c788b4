import unittest
from pathlib import Path

from tests.examples import check_examples, outcome


class Runner(unittest.TestCase):
    def test_what_comes_is_told_in_the_words_of_the_document(self):
        names = {}
        self.assertEqual(outcome("from narrowadds.errors import BadMachine, Unfit", "", names), "")
        self.assertEqual(outcome("n = 3", "", names), "")
        self.assertEqual(outcome("n, 'a'", "(3, 'a')", names), "(3, 'a')")
        names["thrown"] = thrown
        self.assertEqual(outcome("thrown(Unfit())", "raises", names), "raises Unfit()")
        self.assertEqual(outcome("thrown(BadMachine(('wire', 0)))", "raises", names), "raises BadMachine(('wire', 0))")

    def test_an_example_that_does_not_come_fails(self):
        for text in (">>> 1 + 1\n3", ">>> 1\nTrue", ">>> 1\nraises Unfit()"):
            with self.assertRaises(AssertionError):
                check_examples(Plain(), text)
        check_examples(Plain(), ">>> n = 2\n>>> n + 1\n3\n>>> n == 2\nTrue")

    def test_examples_of_the_readme(self):
        readme = Path(__file__).resolve().parent.parent / "README.md"
        check_examples(self, readme.read_text(encoding="utf-8"))


class Plain(unittest.TestCase):
    """A case whose first failure goes on at once."""

    def subTest(self, *told):
        return Nothing()

    def runTest(self):
        pass


class Nothing:
    def __enter__(self):
        return self

    def __exit__(self, *told):
        return False


def thrown(error):
    raise error
