"""Points [3] to [7] and [31] to [36]: disks."""

import copy
import itertools
import random
import unittest

from inorderonce.disks import Disk
from inorderonce.errors import InvalidCount, InvalidKeeps, InvalidName, InvalidText, NoFile, PowerCut
from tests.support import NO_COUNTS, NO_LISTS, STRANGE, Case, nest

SIGNS = "".join([chr(code) for code in range(32, 127)])
GOOD_NAMES = ["a", "z", "0", "9", "-", "---", "log-0001", "mine-0001", "abcdefghijkl", "012345678901", "-a0", "a-",
              "9z"]
BAD_NAMES = [
    *STRANGE, "", "abcdefghijklm", "A", "aB", "a b", " ", "a_", "_", ".", "a.b", "/", "`", "{", ":", ",", "\n", "a\n",
    "\xe9", "\u0661", "\uff10", "a" * 100000, 0, 1, -1, (), ("a",), nest(1000), nest(100000), 10 ** 5000,
]
BAD_TEXTS = [
    *STRANGE, "", "\n", "a\n", "\na", "\t", "\x1f", "\x7f", "\x80", "\xa0", "\xe9", "\u2028", "\ud800",
    "a" * 100000 + "\n",
    0, 1, (), ("a",), nest(1000), nest(100000), 10 ** 5000,
]
BAD_KEEPS = [
    *[value for value in STRANGE if value != []], *NO_LISTS, 5, "12", {0: 1}, [True], [False], [1, True], (None,),
    [1.0], ["1"],
    [-1], (0, -1), [[1]], [()], ((1,),), [0, None], nest(2), nest(1000), nest(100000), [10 ** 20, -1],
]


def told_by(disk):
    """All that a disk tells, but for its arming."""
    return [(name, disk.read(name), disk.synced(name)) for name in disk.names()], disk.ops()


def laid(files):
    """A disk with such files, tuples (name, how much of it is synced, how much is not)."""
    disk = Disk()
    for name, synced, more in files:
        if synced:
            disk.write(name, "s" * synced)
            disk.sync(name)
        if more:
            disk.write(name, "abcdefghij"[:more])
    return disk


class Files(Case):
    """[31], [32]: writing, reading, syncing and dropping."""

    def test_empty(self):
        disk = Disk()
        self.assertEqual(told_by(disk), ([], 0))
        self.assertEqual(disk, Disk())

    def test_write_and_read(self):
        disk = Disk()
        for name in GOOD_NAMES:
            with self.subTest(name=name):
                self.assertIsNone(disk.write(name, "ab"))
                self.assertEqual((disk.read(name), disk.synced(name)), ("ab", 0))
                self.assertIsNone(disk.write(name=name, text="c" + SIGNS))
                self.assertEqual((disk.read(name=name), disk.synced(name=name)), ("abc" + SIGNS, 0))
        self.assertEqual(disk.names(), sorted(GOOD_NAMES))
        self.assertEqual(disk.ops(), 2 * len(GOOD_NAMES))

    def test_each_sign(self):
        for code in range(300):
            disk = Disk()
            with self.subTest(code=code):
                if chr(code) in SIGNS:
                    disk.write("a", chr(code))
                    self.assertEqual(disk.read("a"), chr(code))
                else:
                    self.assertRaises(InvalidText, disk.write, "a", chr(code))
                if chr(code) in "abcdefghijklmnopqrstuvwxyz0123456789-":
                    disk.write(chr(code), "a")
                    disk.write("b" + chr(code), "a")
                else:
                    self.assertRaises(InvalidName, disk.write, chr(code), "a")
                    self.assertRaises(InvalidName, disk.write, "b" + chr(code), "a")

    def test_long_texts(self):
        disk = Disk()
        disk.write("a", "x" * 80001)
        disk.write("a", "y" * 200000)
        self.assertEqual(disk.read("a"), "x" * 80001 + "y" * 200000)
        disk.sync("a")
        self.assertEqual(disk.synced("a"), 280001)

    def test_names(self):
        disk = Disk()
        for name in ["b", "a", "ab", "-", "a-", "a0", "9", "0", "log-0002", "log-0001", "log", "aa", "a-b", "z"]:
            disk.write(name, "x")
        self.assertEqual(disk.names(), ["-", "0", "9", "a", "a-", "a-b", "a0", "aa", "ab", "b", "log", "log-0001",
                                        "log-0002", "z"])
        disk.names().append("more")
        disk.names().clear()
        self.assertEqual(len(disk.names()), 14)

    def test_sync(self):
        disk = Disk()
        disk.write("a", "abc")
        disk.write("b", "xy")
        self.assertIsNone(disk.sync("a"))
        self.assertEqual(told_by(disk), ([("a", "abc", 3), ("b", "xy", 0)], 3))
        disk.write("a", "de")
        self.assertEqual((disk.read("a"), disk.synced("a")), ("abcde", 3))
        self.assertIsNone(disk.sync(name="a"))
        disk.sync("a")
        self.assertEqual(told_by(disk), ([("a", "abcde", 5), ("b", "xy", 0)], 6))

    def test_drop(self):
        disk = laid([("a", 3, 2), ("b", 0, 1)])
        self.assertIsNone(disk.drop("a"))
        self.assertEqual(disk.names(), ["b"])
        self.assert_tells(NoFile, {"name": "a"}, disk.read, "a")
        self.assertIsNone(disk.drop(name="b"))
        self.assertEqual((disk.names(), disk.ops()), ([], 6))
        disk.write("a", "new")
        self.assertEqual((disk.read("a"), disk.synced("a")), ("new", 0))
        disk.fall([])
        self.assertEqual(disk.names(), [])

    def test_wrong_names(self):
        disk = laid([("a", 3, 2), ("b", 0, 1)])
        before = told_by(disk)
        for at, name in enumerate(BAD_NAMES):
            with self.subTest(at=at):
                for call in (disk.read, disk.sync, disk.synced, disk.drop):
                    self.assert_given(InvalidName, name, call, name)
                    self.assert_given(InvalidName, name, call, name=name)
                self.assert_given(InvalidName, name, disk.write, name, "a")
                self.assert_given(InvalidName, name, disk.write, text="a", name=name)
                for text in ("", "\n", None, 1):
                    self.assert_given(InvalidName, name, disk.write, name, text)
                self.assertEqual(told_by(disk), before)

    def test_wrong_texts(self):
        disk = laid([("a", 3, 2), ("b", 0, 1)])
        before = told_by(disk)
        for at, text in enumerate(BAD_TEXTS):
            with self.subTest(at=at):
                for name in ("a", "new"):
                    self.assert_given(InvalidText, text, disk.write, name, text)
                    self.assert_given(InvalidText, text, disk.write, name=name, text=text)
                self.assertEqual(told_by(disk), before)

    def test_no_file(self):
        disk = laid([("a", 3, 2)])
        before = told_by(disk)
        for name in ["b", "aa", "-", "abcdefghijkl"]:
            for call in (disk.read, disk.sync, disk.synced, disk.drop):
                with self.subTest(name=name, call=call.__name__):
                    self.assert_tells(NoFile, {"name": name}, call, name)
                    self.assertEqual(told_by(disk), before)


class Falls(Case):
    """[33], [36]: what a fall leaves."""

    def test_all_files_are_numbered(self):
        """Those that are wholly synced too, and those that go."""
        for keeps, left in [
            ([0, 0, 2, 0], [("b", "ss"), ("c", "abcab"), ("d", "s")]),
            ([1, 0], [("a", "a"), ("b", "ss"), ("c", "abca"), ("d", "s")]),
            ([0, 1], [("b", "ss"), ("c", "abc"), ("d", "sa")]),
            ([2, 3, 1], [("a", "ab"), ("b", "ss"), ("c", "abca"), ("d", "sab")]),
            ([], [("b", "ss"), ("c", "abc"), ("d", "s")]),
            ((), [("b", "ss"), ("c", "abc"), ("d", "s")]),
            ((1,), [("a", "a"), ("b", "ss"), ("c", "abca"), ("d", "sa")]),
            ([0, 0, 0, 0, 9, 9], [("b", "ss"), ("c", "abc"), ("d", "s")]),
        ]:
            with self.subTest(keeps=keeps):
                disk = Disk()
                disk.write("d", "s")
                disk.sync("d")
                disk.write("c", "abc")
                disk.sync("c")
                disk.write("b", "ss")
                disk.sync("b")
                disk.write("a", "abcd")
                disk.write("c", "ab")
                disk.write("d", "abc")
                before = copy.deepcopy(keeps)
                ops = disk.ops()
                self.assertIsNone(disk.fall(keeps))
                self.assertEqual([(name, disk.read(name)) for name in disk.names()], left)
                self.assertEqual([disk.synced(name) for name in disk.names()], [len(text) for _, text in left])
                self.assertEqual(disk.ops(), ops + 1)
                self.assertEqual(keeps, before)

    def test_how_much_is_kept(self):
        """keeps mod (r + 1), with r signs that are not synced."""
        for synced, more, keep in itertools.product(range(3), range(4), [*range(10), 10 ** 14, 10 ** 30 + 1]):
            if synced + more > 0:
                with self.subTest(synced=synced, more=more, keep=keep):
                    disk = laid([("a", synced, more)])
                    disk.fall(keeps=[keep])
                    held = "s" * synced + "abcdefghij"[:more][:keep % (more + 1)]
                    self.assertEqual(disk.names(), ["a"] if held else [])
                    if held:
                        self.assertEqual((disk.read("a"), disk.synced("a")), (held, len(held)))

    def test_no_files(self):
        disk = Disk()
        disk.fall([3])
        self.assertEqual(told_by(disk), ([], 1))

    def test_second_fall(self):
        disk = laid([("a", 3, 2), ("b", 0, 3), ("c", 2, 0)])
        disk.fall([1])
        once = disk.copy()
        for keeps in ([], [0], [5, 7]):
            disk.fall(keeps)
            self.assertEqual(disk, once)
        self.assertEqual(disk.ops(), once.ops() + 3)

    def test_behind_a_fall(self):
        """A file goes on, and one that is gone can be made anew."""
        disk = laid([("a", 2, 2), ("b", 0, 3)])
        disk.fall([1, 0])
        disk.write("a", "x")
        disk.write("b", "y")
        self.assertEqual(told_by(disk)[0], [("a", "ssax", 3), ("b", "y", 0)])

    def test_wrong_keeps(self):
        disk = laid([("a", 3, 2), ("b", 0, 1)])
        disk.arm(1)
        before = told_by(disk)
        for at, keeps in enumerate(BAD_KEEPS):
            with self.subTest(at=at):
                self.assert_given(InvalidKeeps, keeps, disk.fall, keeps)
                self.assert_given(InvalidKeeps, keeps, disk.fall, keeps=keeps)
                self.assertEqual(told_by(disk), before)
        disk.sync("a")
        self.assertRaises(PowerCut, disk.sync, "a")


class Power(Case):
    """[34]: arming."""

    def assert_cut(self, call, *places):
        with self.assertRaises(PowerCut) as caught:
            call(*places)
        self.assertIs(type(caught.exception), PowerCut)
        self.assertEqual(vars(caught.exception), {})

    def test_so_many_calls(self):
        for ops in range(5):
            with self.subTest(ops=ops):
                disk = laid([("a", 1, 1)])
                self.assertIsNone(disk.arm(ops))
                calls = [(disk.write, "a", "x"), (disk.sync, "a"), (disk.write, "b", "y"), (disk.drop, "b"),
                         (disk.sync, "a")]
                for call, *places in calls[:ops]:
                    self.assertIsNone(call(*places))
                before = told_by(disk)
                for call, *places in [(disk.write, "a", "x"), (disk.write, "c", "x"), (disk.sync, "a"),
                                      (disk.drop, "a")] * 2:
                    self.assert_cut(call, *places)
                    self.assertEqual(told_by(disk), before)

    def test_what_is_not_counted(self):
        """Calls that raise their own errors, and those that are neither write nor sync nor drop."""
        disk = laid([("a", 1, 1)])
        disk.arm(ops=1)
        for power in (True, False):
            for _ in range(3):
                self.assert_given(InvalidName, "A", disk.write, "A", "x")
                self.assert_given(InvalidText, "", disk.write, "a", "")
                for call in (disk.read, disk.sync, disk.synced, disk.drop):
                    self.assert_given(InvalidName, "A", call, "A")
                    self.assert_tells(NoFile, {"name": "b"}, call, "b")
                self.assert_given(InvalidKeeps, None, disk.fall, None)
                self.assert_given(InvalidCount, -1, disk.arm, -1)
                self.assertEqual([disk.read("a")[:2], disk.synced("a"), disk.names()], ["sa", 1, ["a"]])
                self.assertEqual([disk.copy() == disk, disk.ops()], [True, 3 if power else 4])
            if power:
                disk.write("a", "x")
            self.assert_cut(disk.write, "a", "y")
        self.assertEqual(disk.read("a"), "sax")

    def test_armed_anew(self):
        disk = laid([("a", 1, 1)])
        disk.arm(0)
        self.assert_cut(disk.sync, "a")
        disk.arm(2)
        disk.sync("a")
        disk.arm(1)
        disk.sync("a")
        self.assert_cut(disk.sync, "a")
        disk.arm(3)
        disk.arm(0)
        self.assert_cut(disk.sync, "a")
        disk.arm(None)
        for _ in range(9):
            disk.sync("a")
        disk.arm(1)
        disk.arm(None)
        for _ in range(9):
            disk.write("a", "x")

    def test_fall_ends_it(self):
        for ops in (0, 1, 2, 5):
            with self.subTest(ops=ops):
                disk = laid([("a", 1, 1)])
                disk.arm(ops)
                disk.fall([1])
                for _ in range(9):
                    disk.sync("a")
                disk.arm(1)
                disk.sync("a")
                self.assert_cut(disk.sync, "a")
                disk.fall([1])
                disk.sync("a")
                disk.sync("a")

    def test_cut_between_write_and_sync(self):
        disk = Disk()
        disk.arm(1)
        disk.write("a", "abcd")
        self.assert_cut(disk.sync, "a")
        disk.fall([2])
        self.assertEqual(told_by(disk), ([("a", "ab", 2)], 2))

    def test_wrong_ops(self):
        disk = laid([("a", 1, 1)])
        for at, ops in enumerate([value for value in NO_COUNTS if value is not None]):
            with self.subTest(at=at):
                for armed in (None, 1):
                    disk.arm(armed)
                    self.assert_given(InvalidCount, ops, disk.arm, ops)
                    self.assert_given(InvalidCount, ops, disk.arm, ops=ops)
                    disk.sync("a")
                self.assert_cut(disk.sync, "a")
        disk.arm(10 ** 30)
        disk.sync("a")


class Copies(Case):
    """[4], [35]: copies and equality."""

    def test_copy(self):
        disk = laid([("a", 2, 1), ("b", 0, 2)])
        other = disk.copy()
        self.assertIs(type(other), Disk)
        self.assertIsNot(other, disk)
        self.assertEqual(told_by(other), told_by(disk))
        for one, two in ((disk, other), (other, disk)):
            before = told_by(two)
            one.write("a", "x")
            one.sync("b")
            one.write("c", "new")
            self.assertEqual(told_by(two), before)
            one.drop("a")
            one.fall([])
            self.assertEqual(told_by(two), before)

    def test_copy_has_the_arming(self):
        disk = laid([("a", 2, 1)])
        disk.arm(2)
        disk.sync("a")
        other = disk.copy()
        self.assertEqual(other.ops(), disk.ops())
        for one in (disk, other):
            one.sync("a")
            self.assertRaises(PowerCut, one.sync, "a")
        third = other.copy()
        self.assertRaises(PowerCut, third.sync, "a")
        third.arm(None)
        third.sync("a")
        self.assertRaises(PowerCut, other.sync, "a")
        self.assertRaises(PowerCut, disk.sync, "a")

    def test_equal(self):
        one, other = laid([("a", 2, 1), ("b", 0, 2)]), laid([("b", 0, 2), ("a", 2, 1)])
        other.write("c", "x")
        other.drop("c")
        other.arm(0)
        self.assertNotEqual(one.ops(), other.ops())
        for _ in range(2):
            self.assertIs(one == other, True)
            self.assertIs(one != other, False)
            one, other = other, one
        self.assertIs(one == one, True)

    def test_unequal(self):
        one = laid([("a", 2, 1), ("b", 0, 2)])
        for files in [
            [], [("a", 2, 1)], [("b", 0, 2)], [("a", 2, 1), ("b", 0, 1)], [("a", 2, 1), ("b", 0, 2), ("c", 0, 1)],
            [("a", 2, 2), ("b", 0, 2)], [("a", 2, 1), ("c", 0, 2)], [("a", 3, 0), ("b", 0, 2)],
        ]:
            with self.subTest(files=files):
                other = laid(files)
                self.assertIs(one == other, False)
                self.assertIs(one != other, True)
                self.assertIs(other == one, False)
        other = one.copy()
        other.sync("b")
        self.assertIs(one == other, False)
        other = one.copy()
        other.sync("a")
        self.assertIs(one == other, False)

    def test_unequal_to_all_else(self):
        for other in [*STRANGE, 0, "", (), told_by(Disk()), Disk]:
            self.assertIs(Disk() == other, False)
            self.assertIs(Disk() != other, True)


class Plain:
    """A plain account of a disk: for each file a list of (sign, whether it is synced)."""

    def __init__(self):
        self.files, self.ops, self.left = {}, 0, None

    def do(self, call, *places):
        if call == "fall":
            (keeps,) = places
            for number, name in enumerate(sorted(self.files)):
                rest = sum([not synced for _, synced in self.files[name]])
                more = keeps[number % len(keeps)] % (rest + 1) if keeps else 0
                held = self.files[name][:len(self.files[name]) - rest + more]
                self.files[name] = [(sign, True) for sign, _ in held]
            self.files = {name: held for name, held in self.files.items() if held}
            self.left = None
        elif call == "arm":
            (self.left,) = places
            return
        elif self.left == 0:
            raise PowerCut()
        else:
            self.left = None if self.left is None else self.left - 1
            if call == "write":
                self.files.setdefault(places[0], []).extend([(sign, False) for sign in places[1]])
            elif call == "sync":
                self.files[places[0]] = [(sign, True) for sign, _ in self.files[places[0]]]
            else:
                del self.files[places[0]]
        self.ops += 1

    def told(self):
        return [(name, "".join([sign for sign, _ in held]), sum([synced for _, synced in held]))
                for name, held in sorted(self.files.items())], self.ops


class Runs(Case):
    """[31] to [36]: whole runs, held against a plain account."""

    def test_runs(self):
        for seed in range(60):
            source = random.Random(seed)
            disk, plain = Disk(), Plain()
            for _ in range(120):
                names = disk.names() or ["a"]
                call, *places = source.choice([
                    ("write", source.choice(["a", "b", "c", "a-", "0"]),
                     "".join(source.choices("abc", k=source.randrange(1, 5)))),
                    ("write", source.choice(names), source.choice("xyz")), ("sync", source.choice(names)),
                    ("sync", source.choice(names)), ("drop", source.choice(names)),
                    ("fall", [source.randrange(7) for _ in range(source.randrange(4))]),
                    ("arm", source.choice([None, 0, 1, 2, 5])),
                ])
                if call in ("sync", "drop") and places[0] not in disk.names():
                    self.assertRaises(NoFile, getattr(disk, call), *places)
                    continue
                before = disk.copy()
                try:
                    plain.do(call, *places)
                except PowerCut:
                    self.assertRaises(PowerCut, getattr(disk, call), *places)
                    self.assertEqual(disk, before)
                else:
                    self.assertIsNone(getattr(disk, call)(*places))
                self.assertEqual(told_by(disk), plain.told())
                if call == "fall":
                    self.check_fall(before, disk)

    def check_fall(self, before, disk):
        """[36]."""
        for name in disk.names():
            self.assertTrue(before.read(name).startswith(disk.read(name)))
            self.assertEqual(disk.synced(name), len(disk.read(name)))
        for name in before.names():
            if before.synced(name) > 0:
                self.assertGreaterEqual(len(disk.read(name)), before.synced(name))


if __name__ == "__main__":
    unittest.main()
