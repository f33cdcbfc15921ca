"""Tests that the examples of the document, and of README.md, come out as they are written there."""

import doctest
import pathlib
import unittest

from tests import examples


class ExamplesTest(unittest.TestCase):

    def check(self, name, text):
        example = doctest.DocTestParser().get_doctest(text, {}, name, None, None)
        report = []
        result = doctest.DocTestRunner().run(example, out=report.append)
        self.assertEqual([result.failed, result.attempted > 7], [0, True], "".join(report))

    def test_of_the_readme(self):
        text = (pathlib.Path(__file__).resolve().parent.parent / "README.md").read_text(encoding="ascii")
        self.check("README.md", text.split("```")[1])

    def test_of_the_document(self):
        names = [name for name in vars(examples) if name.startswith("BEHIND_")]
        self.assertEqual(len(names), 11)
        for name in names:
            with self.subTest(name):
                self.check(name, getattr(examples, name))


if __name__ == "__main__":
    unittest.main()
