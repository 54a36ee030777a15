"""Points [6] and [7]: the error classes and their attributes."""

import unittest

from inorderonce import errors

GIVEN = [
    "InvalidAct", "InvalidActs", "InvalidBrokers", "InvalidCommand", "InvalidCommands", "InvalidCount", "InvalidDisk",
    "InvalidItems", "InvalidKeeps", "InvalidLetter", "InvalidLine", "InvalidName", "InvalidNumber", "InvalidPicture",
    "InvalidState", "InvalidTerm", "InvalidText", "InvalidValue", "InvalidWorld",
]
ATTRIBUTES = {
    "PowerCut": [], "Held": ["group", "number"], "TooLong": ["signs"], "NoFile": ["name"], "NoRow": ["index"],
    "NoTopic": ["topic"], "NoGroup": ["group"], "NotLeading": ["leader"], "Fallen": ["who"],
    **{name: ["given"] for name in GIVEN},
}
WORTHS = [None, True, False, 0, -3, 10 ** 5000, 1.5, "", "text", "\n", b"x", [], [1], (), (1, 2), {}, {"a": 1}, object()]


class Errors(unittest.TestCase):
    def test_just_these_classes(self):
        found = [name for name, it in vars(errors).items() if isinstance(it, type) and issubclass(it, Exception)]
        self.assertEqual(sorted(found), sorted([*ATTRIBUTES, "QueueError"]))

    def test_base(self):
        self.assertTrue(issubclass(errors.QueueError, Exception))
        self.assertNotIn("__init__", vars(errors.QueueError))
        with self.assertRaises(Exception):
            raise errors.QueueError()

    def test_direct_subclasses(self):
        for name in ATTRIBUTES:
            with self.subTest(name=name):
                kind = getattr(errors, name)
                self.assertEqual(kind.__bases__, (errors.QueueError,))
                self.assertEqual(kind.__module__, "inorderonce.errors")

    def test_attributes_by_place_and_by_name(self):
        for name, attributes in ATTRIBUTES.items():
            kind = getattr(errors, name)
            for worth in WORTHS:
                worths = [worth] + [object() for _ in attributes[1:]]
                worths = worths[:len(attributes)]
                by_name = dict(zip(attributes, worths))
                for error in (kind(*worths), kind(**by_name)):
                    with self.subTest(name=name):
                        self.assertEqual(list(vars(error)), attributes)
                        for attribute, given in by_name.items():
                            self.assertIs(getattr(error, attribute), given)

    def test_order_of_places(self):
        error = errors.Held("crew", 2)
        self.assertEqual((error.group, error.number), ("crew", 2))
        error = errors.Held(number=2, group="crew")
        self.assertEqual((error.group, error.number), ("crew", 2))

    def test_too_few_and_too_many(self):
        for name, attributes in ATTRIBUTES.items():
            kind = getattr(errors, name)
            with self.subTest(name=name):
                if attributes:
                    self.assertRaises(TypeError, kind)
                    self.assertRaises(TypeError, kind, *range(len(attributes) + 1))

    def test_caught_as_queue_error(self):
        for name, attributes in ATTRIBUTES.items():
            with self.subTest(name=name):
                with self.assertRaises(errors.QueueError) as caught:
                    raise getattr(errors, name)(*attributes)
                self.assertEqual(vars(caught.exception), {key: key for key in attributes})


if __name__ == "__main__":
    unittest.main()
