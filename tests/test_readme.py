"""The examples of README.md."""

import doctest
import pathlib
import unittest

README = pathlib.Path(__file__).parent.parent / "README.md"


class Readme(unittest.TestCase):
    def test_examples(self):
        text = README.read_text().replace("```", "")
        test = doctest.DocTestParser().get_doctest(text, {}, "README.md", "README.md", 0)
        self.assertGreater(len(test.examples), 12)
        told = []
        doctest.DocTestRunner().run(test, out=told.append)
        self.assertEqual("".join(told), "")

    def test_names_each_module(self):
        for path in (README.parent / "inorderonce").glob("[a-z]*.py"):
            self.assertIn(f"`inorderonce.{path.stem}`", README.read_text())


if __name__ == "__main__":
    unittest.main()
