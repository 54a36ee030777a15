"""The examples of the interface, word for word: each file of tests/examples holds those of one module."""

import pathlib
import unittest

from inorderonce import errors

FOLDER = pathlib.Path(__file__).parent / "examples"


def blocks_of(text):
    """The examples of a file, as lists of (code, what must come of it or None)."""
    for block in text.split("\n\n"):
        steps = []
        for row in block.splitlines():
            if row.startswith(">>> "):
                steps.append((row[4:], None))
            else:
                steps[-1] = (steps[-1][0], row)
        yield steps


class Examples(unittest.TestCase):
    def test_all(self):
        files = sorted(FOLDER.glob("*.txt"))
        self.assertTrue(files)
        for file in files:
            for steps in blocks_of(file.read_text()):
                names = {}
                for code, expected in steps:
                    with self.subTest(file=file.name, code=code):
                        self.check(code, expected, names)

    def check(self, code, expected, names):
        if expected is None and (code.startswith("from ") or " = " in code.partition("(")[0]):
            exec(code, names)
        elif expected is None:
            self.assertIsNone(eval(code, names))
        elif expected.startswith("raises "):
            wanted = eval(expected[len("raises "):], dict(vars(errors)))
            with self.assertRaises(type(wanted)) as caught:
                eval(code, names)
            self.assertIs(type(caught.exception), type(wanted))
            self.assertEqual(vars(caught.exception), vars(wanted))
        else:
            self.assertEqual(repr(eval(code, names)), expected)

    def test_modules(self):
        """None of the files is empty, and there is one for each module that has examples."""
        for module in ("lines", "letters", "disks", "frames", "meaning", "turns", "logs", "pictures", "nodes",
                       "leases", "brokers", "histories", "clients", "worlds", "calm", "examiner", "actlines",
                       "desk"):
            with self.subTest(module=module):
                steps = [step for block in blocks_of((FOLDER / f"{module}.txt").read_text()) for step in block]
                self.assertGreater(len([step for step in steps if step[1] is not None]), 2)


if __name__ == "__main__":
    unittest.main()
