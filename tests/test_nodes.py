"""Points [3] to [7] and [91] to [100]: one node at a time. What several of them do together is in test_clusters."""

import copy
import itertools
import unittest

from inorderonce.disks import Disk
from inorderonce.errors import (
    InvalidBrokers, InvalidCommand, InvalidCount, InvalidDisk, InvalidLetter, InvalidNumber, InvalidValue, NoRow,
    NotLeading, PowerCut,
)
from inorderonce.lines import line
from inorderonce.logs import Log, log_meaning
from inorderonce.nodes import Node, most_reach
from tests.support import FALSE_LETTERS, NO_COUNTS, NO_INTEGERS, NO_LISTS, STRANGE, Case, lay, nest

ITEM = ("jobs", "k", "paint", 0, 0, 0)
NOW = ("now", 0)
LONGEST = '"' * 19999
NO_LETTERS = [
    *FALSE_LETTERS, ("send", "ann", 1, (ITEM,)), ("want", "bob", 1, "crew"), ("make", "ops", 1, ("topic", "jobs", True)),
    ("ok", "ann", 1), ("none", "bob", 1), ("elsewhere", "bob", 1, -1), NOW,
]


def laid(*rows, term=0, voted=None, base=None):
    """A disk with a log of rows of these terms, in this term, with this vote; base is (index, term, picture)."""
    return lay([(elder, ("now", 100 + at)) for at, elder in enumerate(rows)], term, voted, base)


def row(term, at):
    """The row with this term that `laid` puts at this place."""
    return term, ("now", 100 + at)


class Seen(Node):
    """A node whose disk a test looks at."""

    def __init__(self, number, brokers, disk):
        super().__init__(number=number, brokers=brokers, disk=disk)
        self.disk = disk


def leader(*rows, brokers=3, number=0, voters=(1, 2), **parts):
    """A node that leads, behind a log that was laid, with the letters that it sent last."""
    node = Seen(number, brokers, laid(*rows, **parts))
    while node.role == "follows":
        node.tick()
    letters = []
    for voter in voters[:brokers // 2]:
        letters = node.take(("vote", node.term, voter, True))
    return node, letters


def told_by(node):
    """All that a node tells, and all that lies on its disk."""
    disk = node.disk
    rows = [node.row(index) for index in range(node.base + 1, node.last()[0] + 1)]
    return (node.number, node.role, node.leader, node.patience, node.taken, node.term, node.base, node.last(),
            node.picture(), rows,
            [(name, disk.read(name)) for name in disk.names()], disk.ops())


class NodeCase(Case):
    """A test case that looks at nodes."""

    def check(self, node, **wanted):
        """Hold attributes against what is wanted; what the disk means is what the node tells."""
        self.assertEqual({name: getattr(node, name) for name in wanted}, wanted)
        self.check_log(node)

    def check_log(self, node):
        term, _, base, base_term, picture, rows = log_meaning(node.disk)
        self.assertEqual([node.term, node.base, node.picture()], [term, base, picture])
        self.assertEqual(node.last(), (base + len(rows), rows[-1][0] if rows else base_term))
        self.assertEqual([node.row(index) for index in range(base + 1, base + len(rows) + 1)], list(rows))
        self.assertEqual([node.term_at(index) for index in range(base, base + len(rows) + 2)],
                         [base_term, *[term for term, _ in rows], None])
        self.assertIs(type(node.taken), int)

    def quiet(self, node, letter, letters):
        """The node takes the letter and sends these; nothing else is changed."""
        before = told_by(node)
        self.assertEqual(node.take(letter), letters)
        self.assertEqual(told_by(node), before)


class Made(NodeCase):
    """[91]: nodes as they are at first."""

    def test_at_first(self):
        for brokers in (1, 3, 5):
            for number in range(brokers):
                node = Seen(number=number, brokers=brokers, disk=Disk())
                self.check(node, number=number, role="follows", leader=None, patience=0, taken=0, term=0, base=0)
                self.assertEqual([node.last(), node.term_at(0), node.term_at(index=1), node.picture()],
                                 [(0, 0), 0, None, None])
                self.assertEqual([name for name in ("number", "role", "leader", "patience", "taken", "term", "base")
                                  if name not in vars(node)], [])

    def test_on_a_log(self):
        node = Seen(2, 3, laid(3, 3, 4, term=7, voted=2, base=(20, 3, ("p", 1))))
        self.check(node, role="follows", leader=None, patience=0, taken=20, term=7, base=20)
        self.assertEqual([node.last(), node.row(21), node.row(index=23), node.term_at(20), node.picture()],
                         [(23, 4), row(3, 0), row(4, 2), 3, ("p", 1)])

    def test_no_row(self):
        node = Seen(2, 3, laid(3, 4, term=7, base=(20, 3, None)))
        for at, index in enumerate([*NO_INTEGERS, 0, 19, 20, 23, -1, 10 ** 30, nest(100000)]):
            with self.subTest(at=at):
                self.assert_tells(NoRow, {"index": index}, node.row, index)
                if index != 20:
                    self.assertIsNone(node.term_at(index))
        self.assertEqual([Seen(0, 1, Disk()).term_at(index) for index in (0, False, 0.0, None)], [0, None, None, None])

    def test_makes_no_call(self):
        disk = laid(3, 3, term=7, base=(20, 3, None))
        before = disk.copy()
        disk.arm(0)
        ops = disk.ops()
        Seen(0, 3, disk)
        self.assertEqual([disk == before, disk.ops()], [True, ops])
        self.assertRaises(PowerCut, disk.sync, disk.names()[0])
        disk.arm(1)
        Seen(0, 3, disk)
        disk.sync(disk.names()[0])

    def test_uses_the_very_disk(self):
        disk = Disk()
        node = Seen(0, 1, disk)
        for _ in range(7):
            node.tick()
        self.assertEqual(log_meaning(disk), (1, 0, 0, 0, None, ((1, NOW),)))

    def test_wrong(self):
        for at, brokers in enumerate([*NO_INTEGERS, 0, 2, 4, 6, -1, 7, 10 ** 30, nest(100000)]):
            with self.subTest(at=at):
                for number, disk in [(0, Disk()), (-1, None), (None, Disk()), (0, None)]:
                    self.assert_given(InvalidBrokers, brokers, Node, number, brokers, disk)
                    self.assert_given(InvalidBrokers, brokers, Node, disk=disk, brokers=brokers, number=number)
        for brokers in (1, 3, 5):
            for at, number in enumerate([*NO_INTEGERS, -1, brokers, brokers + 1, 10 ** 30, nest(100000)]):
                with self.subTest(brokers=brokers, at=at):
                    for disk in (Disk(), None, [Disk()]):
                        self.assert_given(InvalidNumber, number, Node, number, brokers, disk)
            for at, disk in enumerate([*STRANGE, 0, "", (), Disk, [Disk()], Log(Disk()), nest(100000)]):
                with self.subTest(brokers=brokers, at=at):
                    self.assert_given(InvalidDisk, disk, Node, brokers - 1, brokers, disk)
                    self.assert_given(InvalidDisk, disk, Node, disk=disk, brokers=brokers, number=0)


class Ticks(NodeCase):
    """[92], [94]: patience, asking, and leading."""

    def test_patience(self):
        """Above 6 + 3 * number, and not at it."""
        for brokers in (3, 5):
            for number in range(brokers):
                with self.subTest(brokers=brokers, number=number):
                    node = Seen(number, brokers, laid(2, 2, term=4, voted=None))
                    for patience in range(1, 7 + 3 * number):
                        self.assertEqual(node.tick(), [])
                        self.check(node, role="follows", patience=patience, term=4)
                    others = [other for other in range(brokers) if other != number]
                    self.assertEqual(node.tick(), [(other, ("ask", 5, number, 2, 2)) for other in others])
                    self.check(node, role="asks", leader=None, patience=0, term=5, taken=0)
                    self.assertEqual(log_meaning(node.disk)[:2], (5, number))

    def test_asks_again(self):
        node = Seen(1, 3, Disk())
        letters = [node.tick() for _ in range(30)]
        self.assertEqual([at for at, sent in enumerate(letters) if sent], [9, 19, 29])
        self.assertEqual([sent for sent in letters if sent], [[(0, ("ask", term, 1, 0, 0)),
                                                               (2, ("ask", term, 1, 0, 0))] for term in (1, 2, 3)])
        self.check(node, role="asks", term=3, patience=0)
        node.tick()
        self.check(node, role="asks", term=3, patience=1)

    def test_asking_forgets_the_leader(self):
        node = Seen(0, 3, Disk())
        node.take(("rows", 2, 1, 0, 0, (), 0))
        self.check(node, leader=1, patience=0, term=2)
        for _ in range(6):
            node.tick()
        self.check(node, leader=1, patience=6, role="follows")
        node.tick()
        self.check(node, leader=None, patience=0, role="asks", term=3)

    def test_asking_forgets_who_said_yes(self):
        node = Seen(0, 5, Disk())
        for _ in range(7):
            node.tick()
        self.assertEqual(node.take(("vote", 1, 3, True)), [])
        for _ in range(7):
            node.tick()
        self.check(node, role="asks", term=2)
        self.assertEqual(node.take(("vote", 2, 4, True)), [])
        self.check(node, role="asks", term=2)
        self.assertEqual(len(node.take(("vote", 2, 3, True))), 4)
        self.check(node, role="leads", term=2)

    def test_alone(self):
        node = Seen(0, 1, laid(1, 2, term=2))
        self.assertEqual([node.tick() for _ in range(6)], [[]] * 6)
        self.check(node, role="follows", patience=6)
        self.assertEqual(node.tick(), [])
        self.check(node, role="leads", leader=0, patience=0, term=3, taken=3)
        self.assertEqual([node.row(3), node.tick(), node.put(("now", 7)), node.taken, node.patience],
                         [(3, NOW), [], (4, []), 4, 0])

    def test_one_that_leads(self):
        node, letters = leader(1, 1, term=1)
        self.assertEqual(letters, [(other, ("rows", 2, 0, 2, 1, ((2, NOW),), 0)) for other in (1, 2)])
        patience = node.patience
        for _ in range(20):
            self.assertEqual(node.tick(), letters)
            self.check(node, role="leads", leader=0, patience=patience)

    def test_becoming_leader(self):
        """Its patience stays, next is above its last index, has is 0, and a row of its own is put."""
        node = Seen(0, 5, laid(2, 3, 3, term=4, base=(10, 2, "p")))
        for _ in range(9):
            node.tick()
        self.check(node, role="asks", patience=2, term=5)
        self.assertEqual(node.take(("vote", 5, 4, True)), [])
        letters = node.take(("vote", 5, 2, True))
        self.assertEqual(letters, [(other, ("rows", 5, 0, 13, 3, ((5, NOW),), 10)) for other in (1, 2, 3, 4)])
        self.check(node, role="leads", leader=0, patience=2, term=5, taken=10)
        self.assertEqual([node.last(), node.row(14)], [(14, 5), (5, NOW)])

    def test_leader_anew(self):
        """What it knew of the others in an elder term is of no account."""
        node, _ = leader(2, 2, term=2)
        self.assertEqual(node.term, 3)
        node.take(("got", 3, 1, True, 3))
        self.check(node, taken=3)
        node.take(("ask", 9, 2, 0, 0))
        self.check(node, role="follows", term=9, leader=None)
        for _ in range(7):
            node.tick()
        letters = node.take(("vote", 10, 2, True))
        self.assertEqual(letters, [(other, ("rows", 10, 0, 3, 3, ((10, NOW),), 3)) for other in (1, 2)])
        self.check(node, role="leads", taken=3, term=10)
        self.assertEqual(node.take(("got", 10, 2, True, 4)), [])
        self.check(node, taken=4)


class Votes(NodeCase):
    """[93]: "ask" and "vote" letters."""

    def test_yes(self):
        for index, of, last, wanted in [
            (0, 0, (), True), (3, 2, (2, 2, 2), True), (4, 2, (2, 2, 2), True), (2, 2, (2, 2, 2), False),
            (1, 3, (2, 2, 2), True),
            (9, 1, (2, 2, 2), False), (3, 3, (2, 2, 3), True), (3, 2, (2, 2, 3), False), (0, 0, (1,), False),
            (1, 1, (1,), True), (1, 0, (1,), False),
            (0, 1, (), True), (0, 2, (1, 1), True),
        ]:
            with self.subTest(index=index, of=of, last=last):
                node = Seen(1, 3, laid(*last, term=5))
                for _ in range(4):
                    node.tick()
                self.assertEqual(node.take(("ask", 5, 2, index, of)), [(2, ("vote", 5, 1, wanted))])
                self.check(node, role="follows", leader=None, patience=0 if wanted else 4, term=5)
                self.assertEqual(log_meaning(node.disk)[:2], (5, 2 if wanted else None))

    def test_against_the_base(self):
        node = Seen(1, 3, laid(term=5, base=(20, 3, "p")))
        self.assertEqual(node.take(("ask", 5, 2, 19, 3)), [(2, ("vote", 5, 1, False))])
        self.assertEqual(node.take(("ask", 5, 2, 20, 3)), [(2, ("vote", 5, 1, True))])

    def test_as_often_as_asked(self):
        node = Seen(1, 3, laid(term=5))
        self.assertEqual(node.take(("ask", 5, 2, 0, 0)), [(2, ("vote", 5, 1, True))])
        ops = node.disk.ops()
        for _ in range(3):
            node.tick()
            self.assertEqual(node.take(("ask", 5, 2, 0, 0)), [(2, ("vote", 5, 1, True))])
            self.check(node, patience=0)
            node.tick()
            node.tick()
            self.quiet(node, ("ask", 5, 0, 9, 4), [(0, ("vote", 5, 1, False))])
            self.check(node, patience=2)
        self.assertEqual(node.disk.ops(), ops)

    def test_voted_and_opened_again(self):
        disk = laid(term=5, voted=2)
        self.assertEqual(Seen(1, 3, disk).take(("ask", 5, 0, 0, 0)), [(0, ("vote", 5, 1, False))])
        self.assertEqual(Seen(1, 3, disk).take(("ask", 5, 2, 0, 0)), [(2, ("vote", 5, 1, True))])

    def test_elder_term(self):
        node = Seen(1, 3, laid(term=5))
        self.quiet(node, ("ask", 4, 2, 9, 4), [(2, ("vote", 5, 1, False))])

    def test_one_that_asks_or_leads(self):
        node = Seen(0, 3, Disk())
        for _ in range(8):
            node.tick()
        self.quiet(node, ("ask", 1, 2, 9, 1), [(2, ("vote", 1, 0, False))])
        node.take(("vote", 1, 1, True))
        self.quiet(node, ("ask", 1, 2, 9, 1), [(2, ("vote", 1, 0, False))])
        self.check(node, role="leads")

    def test_greater_term(self):
        """By a vote of its own, ahead of all else; patience stays but for what the letter does."""
        for letter, answer, votes, patience, led in [
            (("ask", 9, 2, 7, 8), [(2, ("vote", 9, 0, True))], [("vote", 9, None), ("vote", 9, 2)], 0, None),
            (("ask", 9, 2, 0, 0), [(2, ("vote", 9, 0, False))], [("vote", 9, None)], 3, None),
            (("vote", 9, 2, True), [], [("vote", 9, None)], 3, None),
            (("vote", 9, 2, False), [], [("vote", 9, None)], 3, None),
            (("got", 9, 2, True, 1), [], [("vote", 9, None)], 3, None),
            (("got", 9, 2, False, 0), [], [("vote", 9, None)], 3, None),
            (("rows", 9, 2, 2, 2, (), 0), [(2, ("got", 9, 0, True, 2))], [("vote", 9, None)], 0, 2),
            (("whole", 9, 2, 0, 0, "~"), [(2, ("got", 9, 0, True, 0))], [("vote", 9, None)], 0, 2),
        ]:
            for role in ("follows", "asks", "leads"):
                with self.subTest(letter=letter, role=role):
                    node = Seen(0, 3, laid(2, 2, term=2))
                    for _ in range(3 if role == "follows" else 10):
                        node.tick()
                    if role == "leads":
                        node.take(("vote", 3, 1, True))
                    self.check(node, role=role, patience=3)
                    disk = node.disk
                    ops, signs = disk.ops(), len("".join([disk.read(name) for name in disk.names()]))
                    self.assertEqual(node.take(letter), answer)
                    self.check(node, role="follows", leader=led, patience=patience, term=9)
                    self.assertEqual(disk.ops(), ops + 2 * len(votes))
                    written = "".join([disk.read(name) for name in disk.names()])[signs:]
                    self.assertEqual(written, "".join(["%05d:%s;" % (len(line(vote)), line(vote)) for vote in votes]))

    def test_not_greater(self):
        """A letter of the own term makes no vote, and leaves one that leads leading."""
        node, _ = leader()
        for letter in [("vote", 1, 1, True), ("vote", 1, 2, False), ("vote", 1, 2, True)]:
            self.quiet(node, letter, [])

    def test_votes_count_once(self):
        node = Seen(0, 5, Disk())
        for _ in range(7):
            node.tick()
        for letter in [("vote", 1, 3, True), ("vote", 1, 3, True), ("vote", 1, 2, False), ("vote", 1, 3, True)]:
            self.assertEqual(node.take(letter), [])
            self.check(node, role="asks")
        self.assertEqual(len(node.take(("vote", 1, 2, True))), 4)
        self.check(node, role="leads")
        ops = node.disk.ops()
        self.assertEqual(node.take(("vote", 1, 1, True)), [])
        self.check(node, role="leads")
        self.assertEqual(node.disk.ops(), ops)

    def test_votes_that_do_nothing(self):
        node = Seen(0, 3, laid(term=4))
        self.quiet(node, ("vote", 4, 1, True), [])
        for _ in range(7):
            node.tick()
        for letter in [("vote", 4, 1, True), ("vote", 5, 1, False), ("vote", 1, 2, True)]:
            self.quiet(node, letter, [])
        self.check(node, role="asks", term=5)

    def test_letters_that_are_none(self):
        for node in (Seen(0, 3, laid(2, 2, term=4)), leader()[0], Seen(0, 1, Disk())):
            before = told_by(node)
            for at, letter in enumerate(NO_LETTERS):
                with self.subTest(at=at):
                    self.assert_given(InvalidLetter, letter, node.take, letter)
                    self.assert_given(InvalidLetter, letter, node.take, letter=letter)
                    self.assertEqual(told_by(node), before)

    def test_from_one_that_is_no_other(self):
        for brokers, number in [(1, 0), (3, 0), (3, 2), (5, 4)]:
            node = Seen(number, brokers, laid(2, term=4))
            before = told_by(node)
            for sender in [number, *range(brokers, 5)]:
                for letter in [("ask", 9, sender, 9, 9), ("vote", 9, sender, True), ("rows", 9, sender, 0, 0, (), 0),
                               ("got", 9, sender, True, 0),
                               ("whole", 9, sender, 0, 0, "~")]:
                    with self.subTest(brokers=brokers, number=number, letter=letter):
                        self.assert_given(InvalidLetter, letter, node.take, letter)
                        self.assertEqual(told_by(node), before)


class Leading(NodeCase):
    """[95] to [97], [99]: what one that leads does."""

    def test_most_reach(self):
        for counts, wanted in [([5], 5), ([2, 7, 4], 4), ([3, 0, 9, 9, 1], 3), ((2, 7), 2), ((7, 2), 2), ([0], 0),
                               ([1, 1, 0], 1), ([1, 0, 0], 0),
                               ([4, 3, 2, 1], 2), ([9, 9, 9, 0, 0], 9), ([10 ** 30, 5, 1], 5), ([0] * 400, 0)]:
            with self.subTest(counts=counts):
                before = copy.copy(counts)
                self.assertEqual(most_reach(counts), wanted)
                self.assertEqual(most_reach(counts=counts), wanted)
                self.assertEqual(counts, before)
        for many in range(1, 6):
            for counts in itertools.product(range(4), repeat=many):
                reached = [count for count in counts if 2 * len([other for other in counts if other >= count]) > many]
                self.assertEqual(most_reach(list(counts)), max(reached))

    def test_most_reach_of_no_counts(self):
        for at, counts in enumerate([*NO_LISTS, [], (), *[[value] for value in NO_COUNTS],
                                     *[[1, value, 2] for value in NO_COUNTS], ([1],)]):
            with self.subTest(at=at):
                self.assert_given(InvalidCount, counts, most_reach, counts)
                self.assert_given(InvalidCount, counts, most_reach, counts=counts)

    def test_put(self):
        node, _ = leader()
        for at, command in enumerate([("now", 4), ("topic", "jobs", True), ("send", "ann", 1, (ITEM,)),
                                      ("done", "crew", 1, (1, 1), ())], 2):
            index, letters = node.put(command)
            self.assertEqual([index, node.row(at), node.last()], [at, (1, command), (at, 1)])
            rows = tuple([node.row(index) for index in range(1, at + 1)])
            self.assertEqual(letters, [(other, ("rows", 1, 0, 0, 0, rows, 0)) for other in (1, 2)])
        self.assertEqual(node.put(command=("now", 9))[0], 6)
        self.check(node, taken=0)

    def test_put_refused(self):
        for node, led in [(Seen(0, 3, laid(2, term=4)), None), (Seen(0, 1, Disk()), None), (leader()[0], 0)]:
            before = told_by(node)
            for at, command in enumerate([*STRANGE, (), ("now",), ("now", -1), ["now", 0], ("want", "bob", 1, "crew"),
                                          nest(100000)]):
                with self.subTest(at=at):
                    self.assert_given(InvalidCommand, command, node.put, command)
                    self.assert_given(InvalidCommand, command, node.put, command=command)
            if led is None:
                self.assert_tells(NotLeading, {"leader": None}, node.put, NOW)
            self.assertEqual(told_by(node), before)
        node = Seen(0, 3, Disk())
        node.take(("rows", 2, 1, 0, 0, (), 0))
        before = told_by(node)
        self.assert_tells(NotLeading, {"leader": 1}, node.put, NOW)
        self.assertEqual(told_by(node), before)
        for _ in range(7):
            node.tick()
        self.check(node, role="asks")
        self.assert_tells(NotLeading, {"leader": None}, node.put, NOW)

    def test_at_most_five_rows(self):
        node, _ = leader()
        for time in range(1, 8):
            node.put(("now", time))
        rows = tuple([node.row(index) for index in range(1, 9)])
        self.assertEqual(node.tick(), [(other, ("rows", 1, 0, 0, 0, rows[:5], 0)) for other in (1, 2)])
        self.assertEqual(node.take(("got", 1, 2, True, 2)), [(2, ("rows", 1, 0, 2, 1, rows[2:7], 2))])
        self.assertEqual(node.tick(), [(1, ("rows", 1, 0, 0, 0, rows[:5], 2)), (2, ("rows", 1, 0, 2, 1, rows[2:7], 2))])
        self.assertEqual(node.take(("got", 1, 2, True, 7)), [(2, ("rows", 1, 0, 7, 1, rows[7:], 7))])
        self.assertEqual(node.take(("got", 1, 2, True, 8)), [])
        self.assertEqual(node.tick(), [(1, ("rows", 1, 0, 0, 0, rows[:5], 8)), (2, ("rows", 1, 0, 8, 1, (), 8))])
        self.check(node, taken=8)

    def test_whole(self):
        """To one whose next is not above the base goes the picture; with next above it, rows."""
        picture = ("p", ('say "x"', 1))
        node, _ = leader(1, 1, 2, 2, term=2)
        node.take(("got", 3, 1, True, 5))
        self.check(node, taken=5)
        node.keep(3, picture)
        node.take(("got", 3, 2, False, 2))
        whole = (2, ("whole", 3, 0, 3, 2, line(picture)))
        self.assertEqual(node.tick(), [(1, ("rows", 3, 0, 5, 3, (), 5)), whole])
        self.assertEqual(node.take(("got", 3, 2, False, 0)), [whole])
        self.assertEqual(node.tick()[1], whole)
        self.assertEqual(node.put(("now", 8))[1], [(1, ("rows", 3, 0, 5, 3, ((3, ("now", 8)),), 5)), whole])
        rows = (row(2, 3), (3, NOW), (3, ("now", 8)))
        self.assertEqual(node.take(("got", 3, 2, False, 3)), [(2, ("rows", 3, 0, 3, 2, rows, 5))])
        self.assertEqual(node.take(("got", 3, 2, True, 3)), [(2, ("rows", 3, 0, 3, 2, rows, 5))])
        self.assertEqual(node.tick()[1], (2, ("rows", 3, 0, 3, 2, rows, 5)))

    def test_longest_picture(self):
        node, _ = leader()
        node.take(("got", 1, 1, True, 1))
        node.keep(1, LONGEST)
        node.take(("got", 1, 2, False, 0))
        self.assertEqual(node.tick()[1], (2, ("whole", 1, 0, 1, 1, line(LONGEST))))
        other = Seen(2, 3, Disk())
        self.assertEqual(other.take(node.tick()[1][1]), [(0, ("got", 1, 2, True, 1))])
        self.assertEqual(other.picture(), LONGEST)

    def test_taken(self):
        """Only a row of the own term is taken, and all beneath it."""
        node, _ = leader(1, 1, 2, term=2, brokers=5, voters=(3, 4))
        self.assertEqual([node.term, node.last()], [3, (4, 3)])
        node.put(("now", 7))
        for sender, index, taken in [(1, 3, 0), (2, 3, 0), (3, 3, 0), (4, 3, 0), (1, 4, 0), (2, 4, 4), (3, 5, 4),
                                     (3, 5, 4), (4, 5, 5), (1, 5, 5), (2, 2, 5)]:
            with self.subTest(sender=sender, index=index):
                node.take(("got", 3, sender, True, index))
                self.check(node, taken=taken)

    def test_got_yes(self):
        node, _ = leader()
        rows = [(1, NOW)] + [(1, ("now", time)) for time in range(1, 8)]
        for time in range(1, 8):
            node.put(("now", time))
        for sender, index, letters, taken in [
            (1, 0, [], 0), (1, 3, [(1, ("rows", 1, 0, 3, 1, tuple(rows[3:8]), 3))], 3), (1, 3, [], 3), (1, 2, [], 3),
            (1, 7, [(1, ("rows", 1, 0, 7, 1, (rows[7],), 7))], 7), (1, 8, [], 8), (1, 8, [], 8),
            (2, 1, [(2, ("rows", 1, 0, 1, 1, tuple(rows[1:6]), 8))], 8),
        ]:
            with self.subTest(sender=sender, index=index):
                self.assertEqual(node.take(("got", 1, sender, True, index)), letters)
                self.check(node, taken=taken, role="leads", patience=0)

    def test_got_yes_changes_next_only_upwards(self):
        """At first next is above the last index: a yes for less leaves it there."""
        node, _ = leader(1, 1, 1, term=1)
        self.assertEqual(node.take(("got", 2, 1, True, 1)), [(1, ("rows", 2, 0, 3, 1, ((2, NOW),), 0))])
        self.assertEqual(node.tick()[0], (1, ("rows", 2, 0, 3, 1, ((2, NOW),), 0)))

    def test_got_no(self):
        """next is one above the greater of has and the index, also if it was greater."""
        node, _ = leader(1, 1, 1, term=1)
        rows = (row(1, 0), row(1, 1), row(1, 2), (2, NOW))
        self.assertEqual(node.take(("got", 2, 1, False, 2)), [(1, ("rows", 2, 0, 2, 1, rows[2:], 0))])
        self.assertEqual(node.take(("got", 2, 1, False, 0)), [(1, ("rows", 2, 0, 0, 0, rows, 0))])
        self.assertEqual(node.take(("got", 2, 1, False, 1)), [(1, ("rows", 2, 0, 1, 1, rows[1:], 0))])
        self.check(node, taken=0)
        self.assertEqual(node.take(("got", 2, 1, True, 3)), [(1, ("rows", 2, 0, 3, 1, rows[3:], 0))])
        self.assertEqual(node.take(("got", 2, 1, False, 1)), [(1, ("rows", 2, 0, 3, 1, rows[3:], 0))])
        self.assertEqual(node.take(("got", 2, 1, True, 4)), [])
        self.check(node, taken=4)
        self.assertEqual(node.take(("got", 2, 1, False, 0)), [(1, ("rows", 2, 0, 4, 2, (), 4))])

    def test_got_that_does_nothing(self):
        node, _ = leader(1, 1, 1, term=1)
        for letter in [("got", 1, 1, True, 3), ("got", 1, 1, False, 0)]:
            self.quiet(node, letter, [])
        node = Seen(0, 3, laid(1, 1, term=4))
        for letter in [("got", 4, 1, True, 2), ("got", 4, 1, False, 0), ("got", 3, 1, True, 2)]:
            self.quiet(node, letter, [])
        for _ in range(7):
            node.tick()
        self.quiet(node, ("got", 5, 1, True, 2), [])
        self.check(node, taken=0)


class Following(NodeCase):
    """[98], [100]: "rows" and "whole" letters, and keep."""

    def test_elder_term(self):
        """Also for one that follows another leader, asks or leads: only the answer."""
        for node in (Seen(0, 3, laid(1, 1, term=4)), leader(1, 1, term=3)[0]):
            self.quiet(node, ("rows", 3, 1, 2, 1, ((3, NOW),), 2), [(1, ("got", 4, 0, False, 0))])
            self.quiet(node, ("whole", 3, 1, 9, 1, "~"), [(1, ("got", 4, 0, False, 0))])

    def test_follows(self):
        for letter in [("rows", 4, 2, 0, 0, (), 0), ("rows", 4, 2, 9, 4, (), 0), ("whole", 4, 2, 0, 0, "~"),
                       ("whole", 4, 2, 9, 1, "~")]:
            node = Seen(1, 3, laid(term=4))
            node.take(("rows", 3, 0, 0, 0, (), 0))
            for _ in range(5):
                node.tick()
            self.check(node, patience=5)
            node.take(letter)
            self.check(node, role="follows", leader=2, patience=0, term=4)
            for _ in range(10):
                node.tick()
            self.check(node, role="asks", term=5, leader=None)
            node.take((letter[0], 5, *letter[2:]))
            self.check(node, role="follows", leader=2, patience=0, term=5)

    def test_rows_are_put(self):
        node = Seen(1, 3, Disk())
        rows = ((1, NOW), (1, ("now", 3)), (2, ("topic", "jobs", True)))
        self.assertEqual(node.take(("rows", 2, 0, 0, 0, rows[:2], 1)), [(0, ("got", 2, 1, True, 2))])
        self.check(node, taken=1, term=2)
        self.assertEqual(node.take(("rows", 2, 0, 2, 1, rows[2:], 1)), [(0, ("got", 2, 1, True, 3))])
        self.assertEqual([node.row(index) for index in (1, 2, 3)], list(rows))
        self.check(node, taken=1)
        self.assertEqual(node.take(("rows", 2, 0, 3, 2, (), 9)), [(0, ("got", 2, 1, True, 3))])
        self.check(node, taken=3)

    def test_each_row_by_calls_of_its_own(self):
        node = Seen(1, 3, laid(1, 1, 1, term=2))
        disk = node.disk
        ops = disk.ops()
        rows = (row(1, 1), (2, ("now", 7)), (2, ("now", 8)))
        self.assertEqual(node.take(("rows", 2, 0, 1, 1, rows, 0)), [(0, ("got", 2, 1, True, 4))])
        self.assertEqual(disk.ops(), ops + 6)
        self.assertEqual(disk.read(disk.names()[-1]), "".join(["%05d:%s;" % (len(text), text) for text in [
            '("cut" 3)', '("row" 3 2 ("now" 7))', '("row" 4 2 ("now" 8))']]))
        self.check(node, taken=0)

    def test_rows_that_are_there(self):
        """They are passed over, and what is behind them stays."""
        node = Seen(1, 3, laid(1, 1, 2, 2, term=2))
        ops = node.disk.ops()
        self.assertEqual(node.take(("rows", 2, 0, 1, 1, (row(1, 1), row(2, 2)), 2)), [(0, ("got", 2, 1, True, 3))])
        self.assertEqual([node.disk.ops(), node.last()], [ops, (4, 2)])
        self.check(node, taken=2)
        self.assertEqual(node.take(("rows", 2, 0, 0, 0, (), 9)), [(0, ("got", 2, 1, True, 0))])
        self.check(node, taken=2)
        self.assertEqual([node.disk.ops(), node.last()], [ops, (4, 2)])

    def test_rows_of_other_terms(self):
        """The log is cut at the first of them alone."""
        node = Seen(1, 3, laid(1, 1, 2, 2, 2, term=5))
        self.assertEqual(node.take(("rows", 5, 0, 1, 1, (row(1, 1), (3, NOW), (5, NOW)), 1)),
                         [(0, ("got", 5, 1, True, 4))])
        self.assertEqual([node.row(index) for index in range(1, 5)], [row(1, 0), row(1, 1), (3, NOW), (5, NOW)])
        self.assertEqual(node.last(), (4, 5))
        self.check(node, taken=1)

    def test_taken_is_the_lesser_and_the_greater(self):
        for told, taken in [(0, 0), (1, 1), (2, 2), (3, 2), (99, 2)]:
            node = Seen(1, 3, laid(1, 1, 1, term=2))
            node.take(("rows", 2, 0, 0, 0, (row(1, 0), row(1, 1)), told))
            self.check(node, taken=taken)
            node.take(("rows", 2, 0, 0, 0, (row(1, 0), row(1, 1)), 1))
            self.check(node, taken=max(taken, 1))

    def test_what_is_ahead_is_not_there(self):
        """A no with its taken: no row at this index, or one of another term. (A yes for an end at the base is ahead of it.)"""
        node = Seen(1, 3, laid(1, 1, 2, term=4))
        node.take(("rows", 4, 0, 2, 1, (), 2))
        self.check(node, taken=2)
        for ahead, of, answer in [(4, 4, False), (9, 1, False), (3, 3, False), (3, 1, False), (2, 2, False),
                                  (1, 0, False), (0, 1, True), (3, 2, True)]:
            with self.subTest(ahead=ahead, of=of):
                before = node.disk.copy()
                letters = node.take(("rows", 4, 2, ahead, of, (), 2))
                self.assertEqual(letters, [(2, ("got", 4, 1, answer, ahead if answer else 2))])
                self.assertEqual(node.disk, before)
                self.check(node, taken=2, leader=2, patience=0)

    def test_beneath_the_base(self):
        """What lies wholly beneath it gets a yes; of what reaches above it the rows up to it are passed over."""
        rows = tuple([(1, ("now", time)) for time in range(5)])
        for ahead, many, end in [(0, 0, 0), (5, 5, 10), (3, 5, 8), (10, 0, 10)]:
            node = Seen(1, 3, laid(2, term=4, base=(10, 2, "p")))
            ops = node.disk.ops()
            self.assertEqual(node.take(("rows", 4, 0, ahead, 1, rows[:many], 99)), [(0, ("got", 4, 1, True, end))])
            self.assertEqual([node.disk.ops(), node.last()], [ops, (11, 2)])
            self.check(node, taken=10, leader=0)
        node = Seen(1, 3, laid(2, 2, term=4, base=(10, 2, "p")))
        self.assertEqual(node.take(("rows", 4, 0, 8, 7, (*rows[:2], row(2, 0), (4, NOW)), 11)),
                         [(0, ("got", 4, 1, True, 12))])
        self.assertEqual([node.row(11), node.row(12), node.last()], [row(2, 0), (4, NOW), (12, 4)])
        self.check(node, taken=11)
        node = Seen(1, 3, laid(term=4, base=(10, 2, "p")))
        self.assertEqual(node.take(("rows", 4, 0, 9, 7, ((7, NOW), (3, NOW)), 99)), [(0, ("got", 4, 1, True, 11))])
        self.assertEqual([node.row(11), node.last()], [(3, NOW), (11, 3)])
        self.check(node, taken=11)

    def test_at_the_base(self):
        node = Seen(1, 3, laid(term=4, base=(10, 2, "p")))
        self.assertEqual(node.take(("rows", 4, 0, 10, 3, ((4, NOW),), 10)), [(0, ("got", 4, 1, False, 10))])
        self.assertEqual(node.take(("rows", 4, 0, 10, 2, ((4, NOW),), 10)), [(0, ("got", 4, 1, True, 11))])
        self.check(node, taken=10)

    def test_whole_is_taken(self):
        picture = ("p", ("q", 10 ** 15 - 1))
        for index, of, last in [(1, 1, (3, 2)), (2, 1, (3, 2)), (3, 2, (3, 2)), (4, 2, (4, 2)), (9, 4, (9, 4)),
                                (2, 2, (2, 2))]:
            with self.subTest(index=index, of=of):
                node = Seen(1, 3, laid(1, 1, 2, term=4))
                self.assertEqual(node.take(("whole", 4, 0, index, of, line(picture))),
                                 [(0, ("got", 4, 1, True, index))])
                self.check(node, taken=index, base=index, leader=0)
                self.assertEqual([node.picture(), node.last(), node.term_at(index)], [picture, last, of])

    def test_whole_is_not_taken(self):
        """At or beneath its taken only the answer goes out."""
        node = Seen(1, 3, laid(1, 1, 2, term=4))
        node.take(("rows", 4, 0, 2, 1, (), 2))
        before = node.disk.copy()
        for index in (2, 1, 0):
            self.assertEqual(node.take(("whole", 4, 0, index, 1, "(7)")), [(0, ("got", 4, 1, True, index))])
            self.assertEqual(node.disk, before)
            self.check(node, taken=2, base=0)
        self.assertEqual(node.take(("whole", 4, 0, 3, 2, "(7)")), [(0, ("got", 4, 1, True, 3))])
        self.check(node, taken=3, base=3)
        self.assertEqual(node.picture(), (7,))

    def test_keep(self):
        node = Seen(1, 3, laid(1, 1, 2, 2, term=4))
        node.take(("rows", 4, 0, 3, 2, (), 3))
        self.assertIsNone(node.keep(2, ("p",)))
        self.check(node, taken=3, base=2)
        self.assertEqual([node.picture(), node.last(), node.row(3), node.term_at(2)], [("p",), (4, 2), row(2, 2), 1])
        self.assertIsNone(node.keep(picture=None, index=3))
        self.check(node, taken=3, base=3)
        self.assertEqual([node.picture(), node.row(4)], [None, row(2, 3)])

    def test_keep_refused(self):
        node = Seen(1, 3, laid(1, 1, 2, 2, term=4, base=(10, 1, "p")))
        node.take(("rows", 4, 0, 12, 1, (), 12))
        self.check(node, taken=12, base=10)
        before = told_by(node)
        for at, index in enumerate([*NO_INTEGERS, 0, 9, 10, 13, 14, 15, -1, 10 ** 30, nest(100000)]):
            with self.subTest(at=at):
                for picture in ("p", [], nest(6)):
                    self.assert_tells(NoRow, {"index": index}, node.keep, index, picture)
                self.assert_tells(NoRow, {"index": index}, node.keep, picture="p", index=index)
                self.assertEqual(told_by(node), before)
        for at, picture in enumerate([object(), [], [1], {}, nest(6), 1.0, "\n", LONGEST + '"', "x" * 39999, (1, [2]),
                                      nest(100000), 10 ** 15]):
            with self.subTest(at=at):
                for index in (11, 12):
                    self.assert_given(InvalidValue, picture, node.keep, index, picture)
                self.assertEqual(told_by(node), before)
        for picture in (nest(5), LONGEST, "x" * 39998):
            other = Seen(1, 3, node.disk.copy())
            other.take(("rows", 4, 0, 12, 1, (), 12))
            other.keep(12, picture)
            self.assertEqual(other.picture(), picture)


class Power(NodeCase):
    """[91]: a call amid which the power goes raises PowerCut."""

    def test_each_call(self):
        whole = ("whole", 9, 2, 9, 5, "(1)")
        rows = ("rows", 9, 2, 1, 1, ((9, NOW), (9, ("now", 4))), 0)
        for call, places, ops in [("take", (("ask", 9, 2, 9, 9),), 4), ("take", (whole,), 6), ("take", (rows,), 8),
                                  ("take", (("got", 9, 2, True, 1),), 2)]:
            for at in range(ops + 1):
                with self.subTest(call=call, places=places, at=at):
                    disk = laid(1, 1, term=2)
                    node = Seen(0, 3, disk)
                    disk.arm(at)
                    if at == ops:
                        getattr(node, call)(*places)
                        self.check_log(node)
                    else:
                        with self.assertRaises(PowerCut) as caught:
                            getattr(node, call)(*places)
                        self.assertIs(type(caught.exception), PowerCut)
                    disk.fall([])
                    self.check_log(Seen(0, 3, disk))

    def test_tick_put_and_keep(self):
        for at in range(3):
            for call, places, ops in [("tick", (), 2), ("put", (("now", 5),), 2), ("keep", (1, "p"), 3)]:
                if call == "tick":
                    node = Seen(0, 3, laid(1, term=2))
                    for _ in range(6):
                        node.tick()
                else:
                    node, _ = leader(term=2)
                    node.take(("got", 3, 1, True, 1))
                disk = node.disk
                disk.arm(at)
                if at < ops:
                    self.assertRaises(PowerCut, getattr(node, call), *places)
                    disk.fall([])
                    self.check_log(Seen(0, 3, disk))
                else:
                    getattr(node, call)(*places)
                    self.check_log(node)


if __name__ == "__main__":
    unittest.main()
