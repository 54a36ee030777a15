"""Points [3] to [7] and [71] to [77]: a broker's log."""

import random
import unittest

from inorderonce.disks import Disk
from inorderonce.errors import (
    InvalidCommand, InvalidCount, InvalidDisk, InvalidNumber, InvalidTerm, InvalidValue, NoRow, PowerCut, QueueError,
)
from inorderonce.frames import all_framed
from inorderonce.lines import line
from inorderonce.logs import Log, log_meaning
from tests.support import NO_COUNTS, NO_INTEGERS, STRANGE, Case, nest

EMPTY = (0, None, 0, 0, None, ())
ITEM = ("jobs", "k", 'say "x"', 0, 0, 0)
COMMANDS = [("now", 0), ("now", 4), ("topic", "jobs", True), ("group", "crew", "jobs", None),
            ("send", "ann", 1, (ITEM,)),
            ("done", "crew", 1, (1, 1), (ITEM,)), ("failed", "crew", 1, 0)]
NO_COMMANDS = [*STRANGE, 0, "", "now", (), ("now",), ["now", 0], ("now", -1), ("now", True),
               ("send", "ann", 1, [ITEM]), ("later", 0),
               ("want", "bob", 1, "crew"), ("vote", 1, 0), nest(100000)]
LONGEST = '"' * 19999
PICTURES = [None, True, 0, -7, "p", ("p", 7), nest(5), (nest(4), 1), LONGEST, "x" * 39998, ("x" * 39996,),
            ((0,) * 400,) * 40]
NO_PICTURES = [*[value for value in STRANGE if value is not None and not isinstance(value, bool)], 10 ** 15, "\n", [1],
               ([1],), nest(6),
               (nest(5), 1), LONGEST + '"', "x" * 39999, "x" * 40000, ("x" * 39997,), (("x" * 39996,),),
               ((0,) * 400,) * 50,
               ((0,) * 401,), nest(1000), nest(100000), 10 ** 5000, ("x" * 40000,) * 400]
NO_DISKS = [*STRANGE, 0, "", "disk", (), Disk, [Disk()], nest(100000)]


def text_of(*entries):
    """What stands on a disk for some entries."""
    return all_framed([entry if isinstance(entry, str) else line(entry) for entry in entries])


def laid(*files):
    """A disk with such files, tuples (name, entries or the whole text)."""
    disk = Disk()
    for name, entries in files:
        disk.write(name, entries if isinstance(entries, str) else text_of(*entries))
        disk.sync(name)
    return disk


def row(index, term=1, command=("now", 0)):
    return "row", index, term, command


def meaning(*entries):
    """What a log means that has these entries in one file."""
    return log_meaning(laid(("log-0001", entries)) if entries else Disk())


def told_by(log):
    return log.term, log.voted, log.base, log.base_term, log.picture, tuple(log.rows())


def files_of(disk):
    return [(name, disk.read(name), disk.synced(name)) for name in disk.names()]


def sample(disk=None):
    """A log with a base at 2, and rows at 3 to 6 of the terms 2, 2, 3, 3, in term 4, in which nobody got a vote."""
    log = Log(Disk() if disk is None else disk)
    log.vote(3, 1)
    for term in (1, 2, 2, 2, 3, 3):
        log.put(term, ("now", 10 + len(log.rows())))
    log.keep(2, "p")
    log.vote(4, None)
    return log


class Meaning(Case):
    """[71], [72]: what lies on a disk."""

    def test_empty(self):
        self.assertEqual(log_meaning(Disk()), EMPTY)
        self.assertEqual(log_meaning(disk=laid(("mine-0001", [("vote", 1, 0)]), ("log", [("vote", 1, 0)]))), EMPTY)

    def test_wrong_disk(self):
        for at, disk in enumerate(NO_DISKS):
            with self.subTest(at=at):
                for call in (log_meaning, Log):
                    self.assert_given(InvalidDisk, disk, call, disk)
                    self.assert_given(InvalidDisk, disk, call, disk=disk)

    def test_names_of_files(self):
        for name in ["log-0000", "log-0001", "log-9999", "log-0100"]:
            self.assertEqual(log_meaning(laid((name, [("vote", 1, 0)])))[:2], (1, 0))
        for name in ["log-001", "log-00001", "log-", "log-000a", "log-00-1", "log--001", "xlog-0001", "lag-0001",
                     "log0001", "0001", "-0001",
                     "log-0001-", "mine-0001", "log-log-", "log-log-0001", "a", "log0-001"]:
            with self.subTest(name=name):
                disk = laid((name, [("vote", 1, 0)]))
                self.assertEqual(log_meaning(disk), EMPTY)
                log = Log(disk)
                log.vote(5, 1)
                log.put(5, ("now", 0))
                log.keep(1, None)
                self.assertEqual(disk.names(), sorted([name, "log-0002"]))
                self.assertEqual(disk.read(name), text_of(("vote", 1, 0)))

    def test_order_of_files(self):
        disk = laid(("log-0010", [row(3)]), ("log-0009", [row(2), row(4)]), ("log-0100", [row(4, 2), row(3)]),
                    ("log-0001", [row(1)]))
        self.assertEqual(log_meaning(disk)[5], ((1, ("now", 0)),) * 3 + ((2, ("now", 0)),))

    def test_vote(self):
        for entries, wanted in [
            ([("vote", 1, 0)], (1, 0)), ([("vote", 7, None)], (7, None)), ([("vote", 2, 4), ("vote", 1, 3)], (2, 4)),
            ([("vote", 2, None), ("vote", 2, 3)], (2, 3)), ([("vote", 2, 1), ("vote", 2, 3)], (2, 3)),
            ([("vote", 2, 1), ("vote", 2, None)], (2, None)),
            ([("vote", 2, 1), ("vote", 3, None)], (3, None)), ([("vote", 10 ** 12 - 1, 2)], (10 ** 12 - 1, 2)),
        ]:
            with self.subTest(entries=entries):
                self.assertEqual(meaning(*entries), wanted + EMPTY[2:])

    def test_row(self):
        one, two, six = [(term, ("now", 0)) for term in (1, 2, 6)]
        for entries, rows in [
            ([row(1)], (one,)), ([row(2)], ()), ([row(1), row(1, 2)], (one,)),
            ([row(1), row(2, 2), row(2, 6)], (one, two)),
            ([row(1), row(3), row(2, 2)], (one, two)), ([row(1, 6), row(2, 1)], (six, one)),
            ([row(2), row(1), row(2, 2)], (one, two)),
        ]:
            with self.subTest(entries=entries):
                self.assertEqual(meaning(*entries), EMPTY[:5] + (rows,))
        for command in COMMANDS:
            self.assertEqual(meaning(row(1, 3, command))[5], ((3, command),))

    def test_cut(self):
        rows = [row(1), row(2, 2), row(3, 3)]
        told = tuple([(term, ("now", 0)) for term in (1, 2, 3)])
        for index, many in [(1, 0), (2, 1), (3, 2), (4, 3), (9, 3)]:
            with self.subTest(index=index):
                self.assertEqual(meaning(*rows, ("cut", index))[5], told[:many])
                self.assertEqual(meaning(*rows, ("cut", index), row(many + 1, 7))[5], told[:many] + ((7, ("now", 0)),))
        self.assertEqual(meaning(("cut", 1)), EMPTY)
        base = ("whole", 2, 2, "p")
        self.assertEqual(meaning(*rows, base, ("cut", 2)), (0, None, 2, 2, "p", told[2:]))
        self.assertEqual(meaning(*rows, base, ("cut", 1)), (0, None, 2, 2, "p", told[2:]))
        self.assertEqual(meaning(*rows, base, ("cut", 3)), (0, None, 2, 2, "p", ()))

    def test_whole(self):
        rows = [("vote", 5, 1), row(1), row(2, 2), row(3, 3)]
        told = tuple([(term, ("now", 0)) for term in (1, 2, 3)])
        for index, term, left in [(1, 1, told[1:]), (2, 2, told[2:]), (3, 3, ()), (4, 3, ()), (99, 9, ()), (2, 1, ()),
                                  (2, 3, ()), (1, 2, ()), (3, 2, ())]:
            with self.subTest(index=index, term=term):
                self.assertEqual(meaning(*rows, ("whole", index, term, ("p", 1))), (5, 1, index, term, ("p", 1), left))
        base = ("whole", 2, 2, "p")
        for other in [("whole", 2, 2, "q"), ("whole", 1, 1, "q"), ("whole", 2, 9, "q"), ("whole", 1, 9, "q")]:
            with self.subTest(other=other):
                self.assertEqual(meaning(*rows, base, other), (5, 1, 2, 2, "p", told[2:]))
        self.assertEqual(meaning(base, ("whole", 3, 1, None), row(4), row(3)),
                         (0, None, 3, 1, None, ((1, ("now", 0)),)))
        self.assertEqual(meaning(base, row(1), row(3, 1)), (0, None, 2, 2, "p", ((1, ("now", 0)),)))
        self.assertEqual(meaning(base, row(3, 3), ("whole", 3, 3, "q"))[2:], (3, 3, "q", ()))

    def test_no_entries(self):
        rest = [
            "", "x", "vote", '"vote"', "()", "(1)", '("vote")', "~", "7", '("vote" 9)', '("vote" 9 1 1)',
            '("vote" 0 1)', '("vote" -1 1)',
            '("vote" 0 ~)', '("vote" + 1)', '("vote" 9 5)', '("vote" 9 -1)', '("vote" 9 +)', '("vote" 9 "1")',
            '("vote" ~ 1)', '("vote"  9 1)',
            '("Vote" 9 1)', '(("vote") 9 1)', '("cut" 0)', '("cut" -1)', '("cut" +)', '("cut" ~)', '("cut" 1 1)',
            '("cut")', '("cut" "1")',
            '("row" 2 1)', '("row" 2 1 ("now" 0) 0)', '("row" 2 0 ("now" 0))', '("row" + 1 ("now" 0))',
            '("row" 2 + ("now" 0))', '("row" 2 1 ("now" -1))',
            '("row" 2 1 ("now" +))', '("row" 2 1 "now")', '("row" 2 1 ~)', '("row" 2 1 ("want" "bob" 1 "crew"))',
            '("row" "2" 1 ("now" 0))',
            '("whole" 0 1 ~)', '("whole" 1 0 ~)', '("whole" 9 9)', '("whole" 9 9 ~ ~)', '("whole" + 9 ~)',
            '("whole" 9 + ~)', '("whole" ~ 9 ~)',
            '("whole" 9 9 ' + line(nest(6)) + ")", line(("whole", 9, 9, "x" * 39999)),
            line(("whole", 9, 9, LONGEST + '"')), "(1 2", "\\", "(" * 70000,
            line(("whole", 9, 9, ((0,) * 400,) * 49 + (("x" * 800,)))), line(("x" * 40000, "x" * 39993)),
            '("done" 9 9 ~)', '("mine" 1 ())',
        ]
        for text in rest:
            with self.subTest(text=text[:40]):
                entries = [("vote", 2, 0), row(1), text, row(2, 2), text]
                self.assertEqual(meaning(*entries), meaning(("vote", 2, 0), row(1), row(2, 2)))

    def test_pictures_in_entries(self):
        for at, picture in enumerate(PICTURES):
            with self.subTest(at=at):
                self.assertEqual(meaning(("whole", 9, 8, picture)), (0, None, 9, 8, picture, ()))

    def test_where_no_frame_begins(self):
        """Only the rest of this file is passed over."""
        good = text_of(("vote", 2, 0), row(1))
        for text in ["x", "00004:junk", "00012:(\"vote\" 9 1)", "99999:;", ";", "0"]:
            with self.subTest(text=text):
                disk = laid(("log-0001", good + text + text_of(row(2, 7), ("vote", 7, 1))), ("log-0002", [row(2, 2)]))
                self.assertEqual(log_meaning(disk), (2, 0, 0, 0, None, ((1, ("now", 0)), (2, ("now", 0)))))
                disk = laid(("log-0001", text + good), ("log-0002", [row(1, 2)]))
                self.assertEqual(log_meaning(disk), EMPTY[:5] + (((2, ("now", 0)),),))

    def test_what_is_not_synced(self):
        disk = Disk()
        disk.write("log-0001", text_of(("vote", 2, 0), row(1)))
        disk.write("log-0002", text_of(row(2, 2)))
        self.assertEqual(log_meaning(disk), (2, 0, 0, 0, None, ((1, ("now", 0)), (2, ("now", 0)))))
        self.assertEqual(log_meaning(disk), told_by(Log(disk)))


class Opened(Case):
    """[73]: what a log tells."""

    def test_opening_makes_no_call(self):
        disk = laid(("log-0001", [("vote", 2, 0), row(1)]), ("log-0003", [row(2, 2)]))
        disk.write("log-0004", text_of(row(3, 2)))
        before = files_of(disk)
        disk.arm(0)
        ops = disk.ops()
        log = Log(disk)
        self.assertEqual(log.last(), (3, 2))
        self.assertEqual(log_meaning(disk)[0], 2)
        self.assertEqual([files_of(disk), disk.ops()], [before, ops])
        self.assertRaises(PowerCut, disk.sync, "log-0001")
        disk.arm(1)
        Log(disk)
        disk.sync("log-0001")
        self.assertRaises(PowerCut, disk.sync, "log-0001")

    def test_empty(self):
        log = Log(disk=Disk())
        self.assertEqual([log.term, log.voted, log.base, log.base_term, log.picture], [0, None, 0, 0, None])
        self.assertEqual([log.rows(), log.last(), log.term_at(0), log.term_at(1), log.rows_from(1, 5)],
                         [[], (0, 0), 0, None, []])
        self.assert_tells(NoRow, {"index": 0}, log.row, 0)
        self.assert_tells(NoRow, {"index": 1}, log.row, 1)
        self.assert_tells(NoRow, {"index": 0}, log.rows_from, 0, 5)
        self.assert_tells(NoRow, {"index": 2}, log.rows_from, 2, 5)
        for index in (False, 0.0, None, "0", ()):
            self.assertIsNone(log.term_at(index))

    def test_ordinary(self):
        disk = Disk()
        for log in (sample(disk), Log(disk)):
            self.assertEqual([log.term, log.voted, log.base, log.base_term, log.picture], [4, None, 2, 2, "p"])
            rows = [(2, ("now", 12)), (2, ("now", 13)), (3, ("now", 14)), (3, ("now", 15))]
            self.assertEqual([log.rows(), log.last()], [rows, (6, 3)])
            self.assertEqual([log.term_at(index) for index in range(-1, 9)],
                             [None, None, None, 2, 2, 2, 3, 3, None, None])
            self.assertEqual([log.row(index) for index in range(3, 7)], rows)
            self.assertEqual([log.row(index=3), log.term_at(index=5)], [rows[0], 3])
            for start in range(4):
                for most in range(6):
                    self.assertEqual(log.rows_from(3 + start, most), rows[start:start + most])
            self.assertEqual(log.rows_from(most=10 ** 30, index=4), rows[1:])
            self.assertEqual([log.rows_from(7, 5), log.rows_from(7, 0)], [[], []])

    def test_base_without_rows(self):
        log = Log(laid(("log-0001", [("whole", 5, 3, ("p",))])))
        self.assertEqual([log.last(), log.rows(), log.term_at(5), log.term_at(4), log.rows_from(6, 1)],
                         [(5, 3), [], 3, None, []])
        self.assert_tells(NoRow, {"index": 5}, log.rows_from, 5, 1)

    def test_no_row(self):
        log = sample()
        for at, index in enumerate([*NO_INTEGERS, 0, 1, 2, 7, -1, 8, 10 ** 30, nest(1000), nest(100000), 10 ** 5000]):
            with self.subTest(at=at):
                self.assert_tells(NoRow, {"index": index}, log.row, index)
                self.assert_tells(NoRow, {"index": index}, log.row, index=index)
                if index != 7:
                    for most in (1, -1, None, "x"):
                        self.assert_tells(NoRow, {"index": index}, log.rows_from, index, most)
                    self.assert_tells(NoRow, {"index": index}, log.rows_from, most=True, index=index)
                if type(index) is not int or index != 2:
                    self.assertIsNone(log.term_at(index))
                    self.assertIsNone(log.term_at(index=index))

    def test_no_count(self):
        log = sample()
        for at, most in enumerate(NO_COUNTS):
            with self.subTest(at=at):
                for index in (3, 6, 7):
                    self.assert_given(InvalidCount, most, log.rows_from, index, most)
                    self.assert_given(InvalidCount, most, log.rows_from, most=most, index=index)

    def test_what_is_returned(self):
        log = sample()
        before = told_by(log)
        log.rows().clear()
        log.rows_from(3, 9).clear()
        log.rows_from(3, 9).append(1)
        self.assertEqual(told_by(log), before)
        self.assertEqual([type(log.rows()), type(log.last()), type(log.row(3)), type(log.rows_from(3, 1))],
                         [list, tuple, tuple, list])


class Written(Case):
    """[74] to [76]: what each call writes, and how."""

    def setUp(self):
        self.disk = Disk()
        self.log = Log(self.disk)

    def check(self, *files):
        """The disk has just these files, with these entries, all synced; the log and the disk tell the same."""
        self.assertEqual(files_of(self.disk), [(name, text_of(*entries), len(text_of(*entries))) for name,
                                               entries in files])
        self.assertEqual(log_meaning(self.disk), told_by(self.log))

    def test_one_file(self):
        self.check()
        self.assertIsNone(self.log.vote(1, 0))
        self.check(("log-0001", [("vote", 1, 0)]))
        self.assertEqual(self.log.put(1, ("now", 4)), 1)
        self.check(("log-0001", [("vote", 1, 0), row(1, 1, ("now", 4))]))
        self.assertEqual(self.log.put(term=1, command=("now", 5)), 2)
        self.assertIsNone(self.log.cut(index=2))
        self.check(("log-0001", [("vote", 1, 0), row(1, 1, ("now", 4)), row(2, 1, ("now", 5)), ("cut", 2)]))
        self.assertIsNone(self.log.vote(who=None, term=2))
        self.assertEqual([self.disk.ops(), self.log.rows(), self.log.term, self.log.voted],
                         [10, [(1, ("now", 4))], 2, None])

    def test_new_file_behind_all_others(self):
        for there, name in [([], "log-0001"), (["log-0001"], "log-0002"), (["log-0001", "log-0007"], "log-0008"),
                            (["log-0009"], "log-0010"),
                            (["log-0099", "log-00999", "mine-0500"], "log-0100"), (["log-8998"], "log-8999"),
                            (["log-0000"], "log-0001")]:
            for call in [("vote", 9, 2), ("put", 5, ("now", 1)), ("cut", 2), ("keep", 1, "p"), ("swap", 3, 5, "p")]:
                with self.subTest(there=there, call=call):
                    disk = laid(*[(file, [("vote", 5, 1), row(1), row(2)]) for file in there])
                    log = Log(disk)
                    if call[0] in ("put", "swap") and log.term == 0:
                        continue
                    if call[0] in ("cut", "keep") and not log.rows():
                        continue
                    getattr(log, call[0])(*call[1:])
                    logs = [file for file in there if len(file) == 8]
                    gone = logs if call[0] in ("keep", "swap") else []
                    self.assertEqual(disk.names(), sorted([file for file in there if file not in gone] + [name]))
                    log.vote(10, 1)
                    self.assertEqual(disk.names(), sorted([file for file in there if file not in gone] + [name]))
                    self.assertTrue(disk.read(name).endswith(text_of(("vote", 10, 1))))

    def test_opened_again(self):
        self.log.vote(1, 0)
        self.log = Log(self.disk)
        self.log = Log(self.disk)
        self.check(("log-0001", [("vote", 1, 0)]))
        self.log.put(1, ("now", 0))
        self.log.put(1, ("now", 1))
        self.check(("log-0001", [("vote", 1, 0)]), ("log-0002", [row(1), row(2, 1, ("now", 1))]))
        self.log = Log(self.disk)
        self.log.cut(2)
        self.check(("log-0001", [("vote", 1, 0)]), ("log-0002", [row(1), row(2, 1, ("now", 1))]),
                   ("log-0003", [("cut", 2)]))
        ops = self.disk.ops()
        self.log.keep(1, None)
        self.check(("log-0004", [("whole", 1, 1, None), ("vote", 1, 0)]))
        self.assertEqual(self.disk.ops(), ops + 5)

    def test_keep(self):
        self.log = sample(self.disk)
        rows = [row(index, term, ("now", 9 + index)) for index, term in [(3, 2), (4, 2), (5, 3), (6, 3)]]
        self.check(("log-0002", [("whole", 2, 2, "p"), ("vote", 3, 1), *rows, ("vote", 4, None)]))
        ops = self.disk.ops()
        self.assertIsNone(self.log.keep(picture=("q", 1), index=4))
        self.assertEqual(self.disk.ops(), ops + 3)
        self.check(("log-0003", [("whole", 4, 2, ("q", 1)), ("vote", 4, None), *rows[2:]]))
        self.assertEqual(told_by(self.log), (4, None, 4, 2, ("q", 1), tuple([entry[2:] for entry in rows[2:]])))
        self.log.keep(6, None)
        self.check(("log-0004", [("whole", 6, 3, None), ("vote", 4, None)]))
        self.log.put(4, ("now", 0))
        self.check(("log-0004", [("whole", 6, 3, None), ("vote", 4, None), row(7, 4)]))

    def test_swap(self):
        rows = [row(index, term, ("now", 9 + index)) for index, term in [(3, 2), (4, 2), (5, 3), (6, 3)]]
        for index, term, left in [(3, 2, rows[1:]), (4, 2, rows[2:]), (5, 3, rows[3:]), (6, 3, []), (7, 3, []),
                                  (99, 4, []), (3, 3, []), (5, 2, []), (4, 4, [])]:
            with self.subTest(index=index, term=term):
                self.disk = Disk()
                self.log = sample(self.disk)
                self.assertIsNone(self.log.swap(index, term, ("q",)))
                self.check(("log-0003", [("whole", index, term, ("q",)), ("vote", 4, None), *left]))
                self.assertEqual(told_by(self.log), (4, None, index, term, ("q",),
                                                     tuple([entry[2:] for entry in left])))
                self.assertEqual(self.log.put(term=4, command=("now", 0)), index + len(left) + 1)
        self.log.swap(picture=None, term=4, index=200)
        self.assertEqual([self.log.base, self.log.base_term, self.log.picture, self.log.rows()], [200, 4, None, []])

    def test_without_a_term(self):
        """[76]: a vote with the term 0 is written, is no entry, and does nothing when it is read."""
        self.disk = laid(("log-0001", [row(1, 3), row(2, 5)]))
        self.log = Log(self.disk)
        self.log.keep(1, "p")
        self.check(("log-0002", [("whole", 1, 3, "p"), '("vote" 0 ~)', row(2, 5)]))
        self.assertEqual(told_by(self.log), (0, None, 1, 3, "p", ((5, ("now", 0)),)))

    def test_other_files_stay(self):
        self.disk = laid(("mine-0001", "abc"), ("log-00001", "abc"), ("log", "x"))
        self.disk.write("log", "y")
        self.log = sample(self.disk)
        self.log.swap(9, 4, None)
        self.assertEqual(self.disk.names(), ["log", "log-00001", "log-0003", "mine-0001"])
        self.assertEqual([self.disk.read("log"), self.disk.synced("log"), self.disk.read("log-00001")],
                         ["xy", 1, "abc"])

    def test_order_of_calls(self):
        """One write, one sync, then the drops in ascending order: seen where the power goes."""
        disk = laid(("log-0007", [("vote", 3, 1), row(1)]), ("log-0002", [("vote", 1, 1)]), ("log-0010", [row(2)]),
                    ("log-0003", [("cut", 9)]))
        names = disk.names()
        for call in [("keep", 1, "p"), ("swap", 5, 2, "p"), ("vote", 4, 1), ("put", 3, ("now", 0)), ("cut", 1)]:
            many = 6 if call[0] in ("keep", "swap") else 2
            for ops in range(many + 1):
                with self.subTest(call=call, ops=ops):
                    other = disk.copy()
                    log = Log(other)
                    other.arm(ops)
                    if ops < many:
                        self.assertRaises(PowerCut, getattr(log, call[0]), *call[1:])
                    else:
                        getattr(log, call[0])(*call[1:])
                    left = names[max(0, ops - 2):] if many == 6 else names
                    self.assertEqual(other.names(), left + (["log-0011"] if ops > 0 else []))
                    if ops > 0:
                        self.assertEqual(other.synced("log-0011"), len(other.read("log-0011")) if ops > 1 else 0)
                        self.assertNotEqual(other.read("log-0011"), "")

    def test_great_pictures(self):
        for at, picture in enumerate(PICTURES):
            with self.subTest(at=at):
                for call in ("keep", "swap"):
                    disk = Disk()
                    log = sample(disk)
                    if call == "keep":
                        log.keep(3, picture)
                    else:
                        log.swap(8, 3, picture)
                    self.assertEqual(log.picture, picture)
                    self.assertEqual(log_meaning(disk), told_by(log))


class Refused(Case):
    """[6], [74] to [76]: wrong values, each refusal ahead of any call on the disk."""

    def setUp(self):
        self.disk = Disk()
        self.log = sample(self.disk)

    def refuse(self, kind, given, call, *places, **names):
        """The call is refused, and nothing is changed, neither in the log nor on the disk, nor is its power used."""
        before = told_by(self.log), files_of(self.disk), self.disk.ops()
        told = {"index": given} if kind is NoRow else {"given": given}
        for ops in (None, 0):
            self.disk.arm(ops)
            self.assert_tells(kind, told, call, *places, **names)
        self.disk.arm(None)
        self.assertEqual((told_by(self.log), files_of(self.disk), self.disk.ops()), before)

    def test_vote(self):
        for at, term in enumerate([*NO_INTEGERS, 0, -1, 1, 2, 3, -(10 ** 30), nest(100000)]):
            with self.subTest(at=at):
                for who in (0, None, 5, "x", True):
                    self.refuse(InvalidTerm, term, self.log.vote, term, who)
                self.refuse(InvalidTerm, term, self.log.vote, who=1, term=term)
        for at, who in enumerate([*[value for value in NO_INTEGERS if value is not None], -1, 5, 10 ** 30,
                                  nest(100000)]):
            with self.subTest(at=at):
                for term in (4, 5, 99):
                    self.refuse(InvalidNumber, who, self.log.vote, term, who)
                self.refuse(InvalidNumber, who, self.log.vote, who=who, term=4)
        self.refuse(InvalidNumber, None, self.log.vote, 4, None)
        self.log.vote(4, 3)
        for who in (3, 0, None, 5):
            self.refuse(InvalidTerm, 4, self.log.vote, 4, who)
        self.log.vote(5, 4)
        self.refuse(InvalidTerm, 5, self.log.vote, 5, 4)
        self.log.vote(6, None)
        self.log.vote(7, None)
        self.log.vote(7, 0)
        self.assertEqual([self.log.term, self.log.voted], [7, 0])

    def test_vote_of_an_empty_log(self):
        self.disk = Disk()
        self.log = Log(self.disk)
        for who in (0, None, 7):
            self.refuse(InvalidTerm, 0, self.log.vote, 0, who)
        self.log.vote(1, None)
        self.log.vote(1, 0)
        self.refuse(InvalidTerm, 1, self.log.vote, 1, 2)

    def test_put(self):
        for at, term in enumerate([*NO_INTEGERS, 0, -1, 1, 2, 5, 10 ** 30, nest(100000)]):
            with self.subTest(at=at):
                for command in (("now", 0), None, ("now", -1)):
                    self.refuse(InvalidTerm, term, self.log.put, term, command)
                self.refuse(InvalidTerm, term, self.log.put, command=("now", 0), term=term)
        for at, command in enumerate(NO_COMMANDS):
            with self.subTest(at=at):
                for term in (3, 4):
                    self.refuse(InvalidCommand, command, self.log.put, term, command)
                self.refuse(InvalidCommand, command, self.log.put, command=command, term=3)
        self.assertEqual([self.log.put(3, ("now", 0)), self.log.put(4, ("now", 0))], [7, 8])
        self.refuse(InvalidTerm, 3, self.log.put, 3, ("now", 0))

    def test_put_behind_a_base(self):
        self.disk = laid(("log-0001", [("vote", 4, 1), ("whole", 5, 3, "p")]))
        self.log = Log(self.disk)
        self.refuse(InvalidTerm, 2, self.log.put, 2, ("now", 0))
        self.assertEqual(self.log.put(3, ("now", 0)), 6)

    def test_put_without_a_term(self):
        self.disk = Disk()
        self.log = Log(self.disk)
        for term in (0, 1, -1):
            self.refuse(InvalidTerm, term, self.log.put, term, ("now", 0))

    def test_cut(self):
        for at, index in enumerate([*NO_INTEGERS, 0, 1, 2, 7, -1, 10 ** 30, nest(100000)]):
            with self.subTest(at=at):
                self.refuse(NoRow, index, self.log.cut, index)
                self.refuse(NoRow, index, self.log.cut, index=index)
        self.log.cut(6)
        self.refuse(NoRow, 6, self.log.cut, 6)
        self.log.cut(3)
        self.refuse(NoRow, 3, self.log.cut, 3)
        self.assertEqual([self.log.rows(), self.log.last()], [[], (2, 2)])

    def test_keep(self):
        for at, index in enumerate([*NO_INTEGERS, 0, 1, 2, 7, -1, 10 ** 30, nest(100000)]):
            with self.subTest(at=at):
                for picture in ("p", [], nest(6)):
                    self.refuse(NoRow, index, self.log.keep, index, picture)
                self.refuse(NoRow, index, self.log.keep, picture="p", index=index)
        for at, picture in enumerate(NO_PICTURES):
            with self.subTest(at=at):
                for index in (3, 6):
                    self.refuse(InvalidValue, picture, self.log.keep, index, picture)
                self.refuse(InvalidValue, picture, self.log.keep, picture=picture, index=3)

    def test_swap(self):
        for at, index in enumerate([*NO_INTEGERS, 0, 1, 2, -1, nest(100000)]):
            with self.subTest(at=at):
                for term, picture in [(4, "p"), (0, []), (None, None), ("x", nest(6))]:
                    self.refuse(InvalidNumber, index, self.log.swap, index, term, picture)
                self.refuse(InvalidNumber, index, self.log.swap, picture="p", term=4, index=index)
        for at, term in enumerate([*NO_INTEGERS, 0, -1, 1, 5, 10 ** 30, nest(100000)]):
            with self.subTest(at=at):
                for index, picture in [(3, "p"), (6, []), (99, nest(6))]:
                    self.refuse(InvalidTerm, term, self.log.swap, index, term, picture)
                self.refuse(InvalidTerm, term, self.log.swap, picture="p", term=term, index=3)
        for at, picture in enumerate(NO_PICTURES):
            with self.subTest(at=at):
                for index, term in [(3, 2), (9, 4)]:
                    self.refuse(InvalidValue, picture, self.log.swap, index, term, picture)
                self.refuse(InvalidValue, picture, self.log.swap, picture=picture, term=2, index=3)

    def test_swap_without_a_term(self):
        self.disk = Disk()
        self.log = Log(self.disk)
        for term in (0, 1):
            self.refuse(InvalidTerm, term, self.log.swap, 1, term, "p")


class Plain:
    """A plain account of a log: its rows by their indices."""

    def __init__(self):
        self.term, self.voted, self.base, self.base_term, self.picture, self.rows = 0, None, 0, 0, None, {}

    def told(self):
        rows = tuple([self.rows[index] for index in sorted(self.rows)])
        return self.term, self.voted, self.base, self.base_term, self.picture, rows

    def end(self):
        return max(self.rows, default=self.base)

    def do(self, call, *places):
        if call == "vote":
            self.term, self.voted = places
        elif call == "put":
            self.rows[self.end() + 1] = places
        elif call == "cut":
            self.rows = {index: held for index, held in self.rows.items() if index < places[0]}
        else:
            index, picture = places[0], places[-1]
            term = self.rows[index][0] if call == "keep" else places[1]
            same = index in self.rows and self.rows[index][0] == term
            self.rows = {place: held for place, held in self.rows.items() if place > index} if same else {}
            self.base, self.base_term, self.picture = index, term, picture


def any_call(source, plain):
    """A call that a log takes, made at random."""
    index, term = plain.end(), plain.rows[plain.end()][0] if plain.rows else plain.base_term
    calls = [("vote", plain.term + source.randrange(1, 3), source.choice([None, 0, 1, 4]))]
    if plain.term > 0:
        calls += [("put", source.randrange(max(1, term), plain.term + 1), source.choice(COMMANDS))] * 4
        calls += [("swap", source.randrange(plain.base + 1, index + 3),
                   source.randrange(max(1, plain.base_term), plain.term + 1), ("q", index))]
        if plain.voted is None:
            calls += [("vote", plain.term, source.randrange(5))]
    if plain.rows:
        place = source.choice(sorted(plain.rows))
        calls += [("cut", place), ("keep", place, ("p", place)), ("swap", place, plain.rows[place][0], ("s", place))]
    return source.choice(calls)


class Power(Case):
    """[77]: runs of calls, between and amid which the power goes."""

    def test_runs(self):
        for seed in range(40):
            source = random.Random(seed)
            disk, plain = Disk(), Plain()
            log = Log(disk)
            for _ in range(50):
                call, *places = any_call(source, plain)
                plain.do(call, *places)
                told = getattr(log, call)(*places)
                self.assertEqual(told, plain.end() if call == "put" else None)
                self.assertEqual([told_by(log), log_meaning(disk)], [plain.told()] * 2)
                if source.random() < 0.2:
                    disk.fall([source.randrange(99) for _ in range(source.randrange(3))])
                    log = Log(disk)
                    self.assertEqual(told_by(log), plain.told())

    def cut(self, steps, ops):
        """Do calls on a disk that is armed so; return it with the meaning ahead of the last call and behind it."""
        disk, plain = Disk(), Plain()
        log = Log(disk)
        disk.arm(ops)
        for call, *places in steps:
            if call == "open":
                log = Log(disk)
                continue
            before = plain.told()
            plain.do(call, *places)
            try:
                getattr(log, call)(*places)
            except PowerCut:
                return disk, [before, plain.told()]
            self.assertEqual(log_meaning(disk), plain.told())
        return disk, [plain.told()]

    def steps(self, source, many):
        plain, steps = Plain(), []
        for _ in range(many):
            step = any_call(source, plain)
            plain.do(*step)
            steps.append(step)
            if source.random() < 0.3:
                steps.append(("open",))
        return steps

    def test_power_goes_at_each_call(self):
        for seed in range(40):
            source = random.Random(seed)
            steps = self.steps(source, 12)
            total = self.cut(steps, None)[0].ops()
            found = []
            for ops in range(total + 1):
                disk, meanings = self.cut(steps, ops)
                self.assertEqual(len(meanings), 1 if ops == total else 2)
                for keeps in ([], [10 ** 9 + 7], [1], [source.randrange(10 ** 6)],
                              [source.randrange(99) for _ in range(5)]):
                    other = disk.copy()
                    other.fall(keeps)
                    found.append(meanings.index(log_meaning(other)))
                    self.go_on(other, source)
            self.assertIn(0, found)
            self.assertIn(1, found)

    def go_on(self, disk, source):
        """A log that is opened on what a fall left goes on from there."""
        plain = Plain()
        plain.term, plain.voted, plain.base, plain.base_term, plain.picture, rows = log_meaning(disk)
        plain.rows = dict(enumerate(rows, plain.base + 1))
        log = Log(disk)
        self.assertEqual(told_by(log), plain.told())
        for _ in range(3):
            call, *places = any_call(source, plain)
            plain.do(call, *places)
            getattr(log, call)(*places)
            self.assertEqual([told_by(log), log_meaning(disk)], [plain.told()] * 2)

    def test_each_cut_of_the_last_write(self):
        """However many of the signs that were written a fall leaves, it is one or the other."""
        for steps in [[("vote", 1, 0)], [("vote", 1, 0), ("put", 1, ("send", "ann", 1, (ITEM,)))],
                      [("vote", 1, 0), ("put", 1, ("now", 0)), ("put", 1, ("now", 1)), ("keep", 1, ("p", "x;y"))],
                      [("vote", 1, 0), ("put", 1, ("now", 0)), ("put", 1, ("now", 1)), ("open",), ("cut", 2)],
                      [("vote", 2, 0), ("put", 1, ("now", 0)), ("put", 2, ("now", 1)), ("put", 2, ("now", 1)),
                       ("swap", 2, 2, "s")]]:
            disk = self.cut(steps, self.cut(steps[:-1], None)[0].ops() + 1)[0]
            meanings = self.cut(steps, self.cut(steps[:-1], None)[0].ops())[1]
            name = disk.names()[-1]
            more = len(disk.read(name)) - disk.synced(name)
            found = []
            for keep in range(more + 1):
                other = disk.copy()
                other.fall([keep] * 3)
                found.append(meanings.index(log_meaning(other)))
            self.assertEqual([found[0], found[-1]], [0, 1])
            self.assertEqual(found, sorted(found))

    def test_falls_within_falls(self):
        """The power goes again and again, at any call."""
        for seed in range(60):
            source = random.Random(seed)
            disk, plain = Disk(), Plain()
            for _ in range(12):
                log = Log(disk)
                self.assertEqual(told_by(log), plain.told())
                disk.arm(source.randrange(12))
                meanings = [plain.told()]
                try:
                    while True:
                        call, *places = any_call(source, plain)
                        meanings = [plain.told()]
                        plain.do(call, *places)
                        meanings.append(plain.told())
                        getattr(log, call)(*places)
                except PowerCut:
                    disk.fall([source.randrange(10 ** 6) for _ in range(source.randrange(4))])
                self.assertIn(log_meaning(disk), meanings)
                plain.term, plain.voted, plain.base, plain.base_term, plain.picture, rows = log_meaning(disk)
                plain.rows = dict(enumerate(rows, plain.base + 1))

    def test_power_cut_is_not_kept_from_the_caller(self):
        disk = Disk()
        log = Log(disk)
        disk.arm(0)
        with self.assertRaises(QueueError) as caught:
            log.vote(1, 0)
        self.assertIs(type(caught.exception), PowerCut)


if __name__ == "__main__":
    unittest.main()
