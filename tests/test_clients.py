"""Points [3] to [7] and [141] to [147]: producers and members, one at a time."""

import random
import unittest

from inorderonce.clients import Member, Producer
from inorderonce.disks import Disk
from inorderonce.errors import (
    InvalidBrokers, InvalidDisk, InvalidItems, InvalidLetter, InvalidName, InvalidText, PowerCut,
)
from inorderonce.frames import all_framed, frames_in
from inorderonce.letters import is_letter, side
from inorderonce.lines import line, read_line
from tests.support import (
    FALSE_LETTERS, ITEM, NO_BROKERS, NO_DISKS, NO_NAMES, STRANGE, Case, files_of, nest,
)

OTHER = ("more", "m", 'say "x" \\', 3, 50, 50)
ONE, TWO, MOST = (ITEM,), (OTHER, ITEM), (ITEM, OTHER, ITEM, OTHER)
NO_ITEMS = [*STRANGE, 0, 1, "", "items", (), (ITEM,) * 5, [ITEM], ITEM, (ITEM, None), (list(ITEM),), (ITEM, ITEM[:5]),
            ((*ITEM, 0),), (("Jobs", *ITEM[1:]),), ((*ITEM[:2], "a" * 41, 0, 0, 0),), ((*ITEM[:3], 4, 0, 0),),
            ((*ITEM[:4], 51, 0),), ((*ITEM[:5], -1),), ((*ITEM[:5], True),), nest(1000)]


def written(*entries):
    """The text of a file with these entries."""
    return all_framed([line(entry) for entry in entries])


def disk_of(**files):
    """A disk with these files, all synced; f1 is mine-0001."""
    disk = Disk()
    for name, text in files.items():
        disk.write("mine-" + name[1:].zfill(4), text)
        disk.sync("mine-" + name[1:].zfill(4))
    return disk


def entries_on(disk, name):
    """The entries in a file, which has nothing else."""
    text = disk.read(name)
    texts, signs = frames_in(text)
    assert signs == len(text)
    return [read_line(entry) for entry in texts]


def ticks(client, many):
    """What so many ticks send, one list for each of them."""
    return [client.tick() for _ in range(many)]


class Opened(Case):
    """[141]: producers as they are opened."""

    def test_at_first(self):
        disk = Disk()
        disk.arm(0)
        ann = Producer(name="ann", disk=disk, brokers=1)
        self.assertEqual([vars(ann)["name"], ann.last(), ann.unacked(), ann.tick(), files_of(disk)],
                         ["ann", 0, [], [], ([], 0)])

    def check(self, disk, last, unacked):
        """What a producer tells that opens on this disk, without a call on it."""
        before = files_of(disk)
        disk.arm(0)
        ann = Producer("ann", disk, 3)
        self.assertEqual([ann.last(), ann.unacked(), files_of(disk)], [last, unacked, before])

    def test_on_a_disk(self):
        self.check(disk_of(f1=written(("mine", 1, ONE), ("mine", 2, TWO), ("acked", 1))), 2, [(2, TWO)])
        self.check(disk_of(f1=written(("mine", 1, ONE), ("mine", 2, MOST))), 2, [(1, ONE), (2, MOST)])
        self.check(disk_of(f1=written(("mine", 1, ONE), ("acked", 1))), 1, [])

    def test_counting_on_from_file_to_file(self):
        """In ascending order of the files' names."""
        self.check(disk_of(f12=written(("mine", 3, TWO), ("acked", 2)), f2=written(("mine", 1, ONE), ("acked", 1)),
                           f9999=written(("mine", 4, MOST)), f10=written(("mine", 2, ONE))), 4, [(3, TWO), (4, MOST)])
        self.check(disk_of(f1=written(("mine", 2, ONE)), f2=written(("mine", 1, TWO))), 1, [(1, TWO)])

    def test_what_is_passed_over(self):
        """Another number than the next one, or another form; what stands behind it counts."""
        for entry in (("mine", 1, TWO), ("mine", 3, TWO), ("mine", 0, TWO), ("mine", 2, ()), ("mine", 2, (ITEM,) * 5),
                      ("mine", 2, (ITEM, 1)), ("mine", 2), ("mine", 2, TWO, 0), ("mine", "2", TWO), ("mine", None, TWO),
                      ("acked", 0), ("acked", 3), ("acked", "1"), ("acked", 1, 1), ("acked",), ("acked", -1),
                      ("Mine", 2, TWO), ("send", "ann", 2, TWO), (2, "mine", TWO), (), 7, "mine", None, True, ("mine",),
                      ("mine", (2,), TWO), ("acked", (1,)), (("mine",), 2, TWO)):
            with self.subTest(entry=entry):
                disk = disk_of(f1=written(("mine", 1, ONE), entry, ("mine", 2, ONE), ("acked", 1), entry))
                wanted = 3 if entry == ("mine", 3, TWO) else 2
                self.check(disk, wanted, [(2, ONE), (3, TWO)][:wanted - 1])

    def test_acked_ahead_of_its_sending(self):
        """It is not above the last one so far, or it doesn't count."""
        self.check(disk_of(f1=written(("acked", 1), ("mine", 1, ONE))), 1, [(1, ONE)])
        self.check(disk_of(f1=written(("mine", 1, ONE), ("acked", 1), ("acked", 2), ("mine", 2, TWO))), 2, [(2, TWO)])
        self.check(disk_of(f1=written(("mine", 1, ONE), ("mine", 2, ONE), ("acked", 2), ("acked", 1))), 2, [(2, ONE)])
        self.check(disk_of(f1=written(("mine", 1, ONE), ("mine", 2, TWO), ("acked", 2))), 2, [(1, ONE), (2, TWO)])

    def test_bools_are_no_numbers(self):
        self.check(disk_of(f1=written(("mine", True, ONE))), 0, [])
        self.check(disk_of(f1=written(("mine", 1, ONE), ("acked", True))), 1, [(1, ONE)])

    def test_where_no_frame_begins(self):
        """The rest of the file is passed over, and no other file; a text that is no line counts for nothing."""
        one, two = written(("mine", 1, ONE)), written(("mine", 2, TWO))
        self.check(disk_of(f1=one + two[:-1], f2=two), 2, [(1, ONE), (2, TWO)])
        self.check(disk_of(f1=one + "x" + two, f2=written(("acked", 1))), 1, [])
        self.check(disk_of(f1=one + all_framed(["(mine", "", '("mine"  2 ())']) + two), 2, [(1, ONE), (2, TWO)])

    def test_other_files(self):
        """Files of other names are not its own; the name of the producer stands nowhere."""
        disk = Disk()
        for name in ("log-0001", "mine-001", "mine-00001", "mine-000a", "mine0001", "amine-0001", "mine-", "mine--001"):
            disk.write(name, written(("mine", 1, TWO)))
            disk.sync(name)
        self.check(disk, 0, [])
        disk.arm(None)
        bob = Producer("bob", disk, 3)
        self.assertEqual([bob.put(ONE), disk.read("mine-0001")], [1, written(("mine", 1, ONE))])
        self.check(disk, 1, [(1, ONE)])

    def test_raises(self):
        disk = Disk()
        for name in NO_NAMES:
            self.assert_given(InvalidName, name, Producer, name, None, 2)
            self.assert_given(InvalidName, name, Producer, brokers=1, disk=disk, name=name)
        for value in NO_DISKS:
            self.assert_given(InvalidDisk, value, Producer, "ann", value, 2)
            self.assert_given(InvalidDisk, value, Producer, "ann", value, 3)
        for brokers in NO_BROKERS:
            self.assert_given(InvalidBrokers, brokers, Producer, "ann", disk, brokers)
        self.assertEqual(files_of(disk), ([], 0))


class Puts(Case):
    """[141], [142]: what a producer writes."""

    def test_put(self):
        disk = Disk()
        ann = Producer("ann", disk, 3)
        self.assertEqual([ann.put(ONE), ann.put(items=MOST), ann.put(TWO), ann.last()], [1, 2, 3, 3])
        self.assertEqual(ann.unacked(), [(1, ONE), (2, MOST), (3, TWO)])
        self.assertEqual(entries_on(disk, "mine-0001"), [("mine", 1, ONE), ("mine", 2, MOST), ("mine", 3, TWO)])
        self.assertEqual([disk.names(), disk.synced("mine-0001"), disk.ops()],
                         [["mine-0001"], len(disk.read("mine-0001")), 6])
        ann.unacked().clear()
        self.assertEqual(len(ann.unacked()), 3)

    def test_each_object_writes_into_a_file_of_its_own(self):
        """The first entry goes into a new file, behind the greatest that is there then."""
        disk = disk_of(f7=written(("mine", 1, ONE)), f3=all_framed(["x"]))
        ann = Producer("ann", disk, 3)
        self.assertEqual(disk.names(), ["mine-0003", "mine-0007"])
        ann.put(TWO)
        ann.take(("ok", "ann", 1))
        self.assertEqual(entries_on(disk, "mine-0008"), [("mine", 2, TWO), ("acked", 1)])
        again = Producer("ann", disk, 3)
        again.take(("ok", "ann", 2))
        self.assertEqual([disk.names(), entries_on(disk, "mine-0009")],
                         [["mine-0003", "mine-0007", "mine-0008", "mine-0009"], [("acked", 2)]])
        self.assertEqual([Producer("ann", disk, 3).unacked(), disk.ops()], [[], 10])

    def test_no_items(self):
        disk = Disk()
        ann = Producer("ann", disk, 3)
        ann.put(ONE)
        before = files_of(disk)
        for items in NO_ITEMS:
            self.assert_given(InvalidItems, items, ann.put, items)
            self.assert_given(InvalidItems, items, ann.put, items=items)
        self.assertEqual([files_of(disk), ann.unacked(), ann.last()], [before, [(1, ONE)], 1])


class Sends(Case):
    """[143]: what a producer sends, and what it takes."""

    def sent(self, to, number, items):
        return [(to, ("send", "ann", number, items))]

    def test_asking_again(self):
        """In the fifth tick behind the last one it goes to the next broker, and behind the last one comes 0."""
        ann = Producer("ann", Disk(), 3)
        self.assertEqual(ticks(ann, 7), [[]] * 7)
        ann.put(ONE)
        ann.put(TWO)
        rest = [[]] * 4
        self.assertEqual(ticks(ann, 17), [
            self.sent(0, 1, ONE), *rest, self.sent(1, 1, ONE), *rest, self.sent(2, 1, ONE), *rest, self.sent(0, 1, ONE),
            []])
        alone = Producer("ann", Disk(), 1)
        alone.put(ONE)
        self.assertEqual(ticks(alone, 6), [self.sent(0, 1, ONE), *rest, self.sent(0, 1, ONE)])

    def test_ok(self):
        disk = Disk()
        ann = Producer("ann", disk, 3)
        for items in (ONE, TWO, MOST):
            ann.put(items)
        ticks(ann, 6)
        self.assertEqual(ann.take(("ok", "ann", 1)), [])
        self.assertEqual([ann.unacked(), ann.last(), entries_on(disk, "mine-0001")[-1], disk.ops()],
                         [[(2, TWO), (3, MOST)], 3, ("acked", 1), 8])
        self.assertEqual(disk.synced("mine-0001"), len(disk.read("mine-0001")))
        # The next eldest goes out in the next tick, to the broker that is believed in by now.
        self.assertEqual(ticks(ann, 2), [self.sent(1, 2, TWO), []])
        self.assertEqual([ann.take(("ok", "ann", 2)), ann.tick(), ann.take(letter=("ok", "ann", 3)), ann.unacked()],
                         [[], self.sent(1, 3, MOST), [], []])
        self.assertEqual(ticks(ann, 9), [[]] * 9)
        ann.put(TWO)
        self.assertEqual(ticks(ann, 6), [self.sent(1, 4, TWO), [], [], [], [], self.sent(2, 4, TWO)])

    def test_ok_ahead_of_asking(self):
        """What another life asked for may be answered to this one."""
        ann = Producer("ann", Disk(), 3)
        ann.put(ONE)
        ann.put(TWO)
        ann.take(("ok", "ann", 1))
        self.assertEqual([ann.unacked(), ann.tick()], [[(2, TWO)], self.sent(0, 2, TWO)])

    def test_of_other_numbers(self):
        """All but the eldest's: nothing is changed, the ticks of waiting neither."""
        disk = Disk()
        ann = Producer("ann", disk, 5)
        ann.put(ONE)
        ann.take(("ok", "ann", 1))
        for number in (1, 2):
            ann.take(("ok", "ann", number))
            ann.take(("elsewhere", "ann", number, 3))
        ann.put(TWO)
        ann.put(MOST)
        before = files_of(disk)
        self.assertEqual(ticks(ann, 3), [self.sent(0, 2, TWO), [], []])
        for number in (1, 3, 4, 999999999999):
            for letter in (("ok", "ann", number), ("elsewhere", "ann", number, 3), ("elsewhere", "ann", number, -1)):
                self.assertEqual(ann.take(letter), [])
        for letter in self.of_other_kinds(2):
            self.assertEqual(ann.take(letter), [])
        self.assertEqual([ticks(ann, 3), files_of(disk)], [[[], [], self.sent(1, 2, TWO)], before])

    def of_other_kinds(self, ask):
        return [("give", "ann", ask, "crew", ask, (1, 1), "jobs", "k", ""), ("none", "ann", ask), ("made", "ann", ask),
                ("yes", "ann", ask, "crew", ask, (1, 1)), ("stale", "ann", ask, "crew", ask, (1, 1))]

    def test_elsewhere(self):
        """The leader is believed in, and the eldest goes out in the next tick; also if it was believed in already."""
        for leader in (0, 1, 2):
            ann = Producer("ann", Disk(), 3)
            ann.put(ONE)
            self.assertEqual(ticks(ann, 3), [self.sent(0, 1, ONE), [], []])
            self.assertEqual(ann.take(("elsewhere", "ann", 1, leader)), [])
            self.assertEqual(ticks(ann, 6), [self.sent(leader, 1, ONE), [], [], [], [],
                                             self.sent((leader + 1) % 3, 1, ONE)])

    def test_elsewhere_anew(self):
        """By each such letter; -1 is the next broker; one that is none of its brokers changes nothing."""
        for leaders, wanted in (((-1,), 1), ((-1, -1), 2), ((-1, -1, -1), 0), ((2, -1), 0), ((1, 0), 0), ((2, 3), 2),
                                ((2, 4, -1), 0)):
            ann = Producer("ann", Disk(), 3)
            ann.put(ONE)
            ann.tick()
            for leader in leaders:
                ann.take(("elsewhere", "ann", 1, leader))
            self.assertEqual(ticks(ann, 2), [self.sent(wanted, 1, ONE), []])
        ann = Producer("ann", Disk(), 1)
        ann.put(ONE)
        ann.tick()
        for leader in (1, 2, 4):
            ann.take(("elsewhere", "ann", 1, leader))
        self.assertEqual(ticks(ann, 5), [[], [], [], [], self.sent(0, 1, ONE)])
        ann.take(("elsewhere", "ann", 1, -1))
        self.assertEqual(ticks(ann, 2), [self.sent(0, 1, ONE), []])

    def test_elsewhere_ahead_of_asking(self):
        ann = Producer("ann", Disk(), 5)
        ann.put(ONE)
        ann.take(("elsewhere", "ann", 1, 4))
        self.assertEqual(ticks(ann, 6), [self.sent(4, 1, ONE), [], [], [], [], self.sent(0, 1, ONE)])

    def test_no_letters(self):
        disk = Disk()
        ann = Producer("ann", disk, 3)
        ann.put(ONE)
        ann.tick()
        before = files_of(disk)
        for letter in [*FALSE_LETTERS, ("send", "ann", 1, ONE), ("want", "ann", 1, "crew"),
                       ("nay", "ann", 1, "crew", 1, (1, 1)), ("done", "ann", 1, "crew", 1, (1, 1), ()),
                       ("make", "ann", 1, ("topic", "jobs", True)),
                       ("vote", 1, 1, True), ("got", 1, 1, True, 1), ("ok", "bob", 1), ("elsewhere", "bob", 1, 2),
                       ("none", "bob", 1), ("made", "anna", 1)]:
            self.assert_given(InvalidLetter, letter, ann.take, letter)
            self.assert_given(InvalidLetter, letter, ann.take, letter=letter)
        self.assertEqual([files_of(disk), ann.unacked(), ticks(ann, 5)],
                         [before, [(1, ONE)], [[], [], [], [], self.sent(1, 1, ONE)]])


class Works(Case):
    """[144]: members, and what they do with a message."""

    def test_at_first(self):
        bob = Member(name="bob", group="crew", made="more", brokers=5)
        self.assertEqual([vars(bob)[name] for name in ("name", "group", "made")], ["bob", "crew", "more"])
        self.assertEqual([bob.holds(), bob.told(), Member("bob", "bob", None, 1).made], [None, [], None])

    def test_work(self):
        bob, eve = Member("bob", "crew", "more", 1), Member("eve", "crew", None, 1)
        for body, made in [("", None), ("a", None), ("ab", "a"), ("abc", "a"), ("abcd", "ab"), (" x", " "),
                           ('"\\', '"'), ("y" * 40, "y" * 20), ("X" * 39, "X" * 19)]:
            self.assertEqual(bob.work("k", body), () if made is None else (("more", "k", made, 0, 0, 0),))
            self.assertEqual(eve.work(body=body, key="abcdefgh"), ())
        for body in ("x", "xo", "xx", "x" * 40):
            self.assertEqual([bob.work("k", body), eve.work("k", body)], ["nay", "nay"])

    def test_work_raises(self):
        bob = Member("bob", "crew", None, 1)
        for key in NO_NAMES:
            self.assert_given(InvalidName, key, bob.work, key, None)
            self.assert_given(InvalidName, key, bob.work, body="x", key=key)
        for body in (*STRANGE, 0, (), "a" * 41, "x" * 41, "\n", "a\tb", "\x7f", ("a",)):
            self.assert_given(InvalidText, body, bob.work, "k", body)

    def test_raises(self):
        for name in NO_NAMES:
            self.assert_given(InvalidName, name, Member, name, None, 7, 2)
            self.assert_given(InvalidName, name, Member, "bob", name, 7, 2)
            self.assert_given(InvalidName, name, Member, brokers=1, made="more", group="crew", name=name)
            if name is not None:
                self.assert_given(InvalidName, name, Member, "bob", "crew", name, 2)
        for brokers in NO_BROKERS:
            self.assert_given(InvalidBrokers, brokers, Member, "bob", "crew", None, brokers)
            self.assert_given(InvalidBrokers, brokers, Member, "bob", "crew", "more", brokers)


class Wants(Case):
    """[145], [146]: the asks of a member."""

    def member(self, brokers=3, made="more"):
        return Member("bob", "crew", made, brokers)

    def want(self, to, ask):
        return [(to, ("want", "bob", ask, "crew"))]

    def give(self, ask, number=4, body="one", token=(2, 7), group="crew", name="bob"):
        return "give", name, ask, group, number, token, "jobs", "k", body

    def test_asking_again(self):
        bob = self.member()
        rest = [[]] * 4
        self.assertEqual(ticks(bob, 17), [self.want(0, 1), *rest, self.want(1, 1), *rest, self.want(2, 1), *rest,
                                          self.want(0, 1), []])
        alone = self.member(1)
        self.assertEqual(ticks(alone, 6), [self.want(0, 1), *rest, self.want(0, 1)])

    def test_rest(self):
        """For 3 ticks behind "none", and then the next ask goes to the broker that is believed in."""
        bob = self.member()
        ticks(bob, 6)
        self.assertEqual([bob.take(("none", "bob", 1)), bob.holds()], [[], None])
        self.assertEqual(ticks(bob, 9), [[], [], [], self.want(1, 2), [], [], [], [], self.want(2, 2)])
        # While it rests it waits for nothing: no answer is taken.
        bob.take(("none", "bob", 2))
        for letter in (("none", "bob", 2), ("elsewhere", "bob", 2, 0), self.give(2), ("elsewhere", "bob", 3, 0),
                       self.give(3), ("none", "bob", 3)):
            self.assertEqual(bob.take(letter), [])
        self.assertEqual([ticks(bob, 4), bob.told(), bob.holds()], [[[], [], [], self.want(2, 3)], [], None])

    def test_give(self):
        for body, letter in (("one", ("done", "bob", 2, "crew", 4, (2, 7), (("more", "k", "o", 0, 0, 0),))),
                             ("a", ("done", "bob", 2, "crew", 4, (2, 7), ())),
                             ("xo", ("nay", "bob", 2, "crew", 4, (2, 7)))):
            bob = self.member()
            ticks(bob, 6)
            self.assertEqual(bob.take(self.give(1, body=body)), [(1, letter)])
            self.assertEqual([bob.holds(), bob.told()], [("crew", 4), []])
            # It waits for the answer to this one now, and asks again in the fifth tick behind it.
            self.assertEqual(ticks(bob, 6), [[], [], [], [], [(2, letter)], []])
            self.assertEqual(bob.take(self.give(1, body=body)), [])
            self.assertEqual(bob.holds(), ("crew", 4))

    def test_a_done_between_ticks(self):
        """One that went out in a take between its ticks 3 and 4 goes out again in tick 8."""
        bob = self.member()
        ticks(bob, 3)
        [(_, letter)] = bob.take(self.give(1))
        self.assertEqual([ticks(bob, 4), bob.tick()], [[[], [], [], []], [(1, letter)]])

    def test_answers_to_what_it_told(self):
        told = []
        bob = self.member()
        for number, word in ((4, "yes"), (4, "stale"), (9, "yes")):
            ask = 2 * len(told) + 1
            self.assertEqual(bob.tick(), self.want(0, ask))
            self.assertEqual(bob.take(self.give(ask, number, "x" if number == 9 else "y"))[0][1][2], ask + 1)
            answer = (word, "bob", ask + 1, "crew", number, (2, 7))
            for letter in [(word, "bob", ask, "crew", number, (2, 7)), (word, "bob", ask + 2, "crew", number, (2, 7)),
                           (word, "bob", ask + 1, "gang", number, (2, 7)), (word, "bob", ask + 1, "crew", 5, (2, 7)),
                           (word, "bob", ask + 1, "crew", number, (2, 8)),
                           (word, "bob", ask + 1, "crew", number, (1, 7)),
                           ("none", "bob", ask + 1), self.give(ask + 1, number), ("ok", "bob", ask + 1),
                           ("made", "bob", ask + 1)]:
                self.assertEqual([bob.take(letter), bob.holds(), bob.told()], [[], ("crew", number), told])
            told.append((number, word))
            self.assertEqual([bob.take(answer), bob.holds(), bob.told()], [[], None, told])
            self.assertEqual([bob.take(answer), bob.told()], [[], told])
        bob.told().clear()
        self.assertEqual(bob.told(), told)

    def test_answers_to_another_want(self):
        """With another ask, for another group, or of a kind that answers no want: nothing changes."""
        bob = self.member()
        self.assertEqual(ticks(bob, 3), [self.want(0, 1), [], []])
        for letter in (self.give(2), self.give(1, group="gang"), ("none", "bob", 2), ("elsewhere", "bob", 2, 2),
                       ("yes", "bob", 1, "crew", 4, (2, 7)), ("stale", "bob", 1, "crew", 4, (2, 7)), ("ok", "bob", 1),
                       ("made", "bob", 1), ("elsewhere", "bob", 1, 3), ("elsewhere", "bob", 1, 4)):
            self.assertEqual([bob.take(letter), bob.holds(), bob.told()], [[], None, []])
        self.assertEqual(ticks(bob, 3), [[], [], self.want(1, 1)])

    def test_elsewhere(self):
        """The letter that it waits with goes out again in the next tick, by each such letter anew."""
        for leaders, wanted in [((2,), 2), ((0,), 0), ((-1,), 1), ((-1, -1), 2), ((2, -1), 0), ((2, 3), 2),
                                ((1, 2), 2)]:
            bob = self.member()
            ticks(bob, 3)
            for leader in leaders:
                self.assertEqual(bob.take(("elsewhere", "bob", 1, leader)), [])
            self.assertEqual(ticks(bob, 6), [self.want(wanted, 1), [], [], [], [], self.want((wanted + 1) % 3, 1)])
            [(to, letter)] = bob.take(self.give(1))
            self.assertEqual(to, (wanted + 1) % 3)
            for leader in leaders:
                bob.take(("elsewhere", "bob", 2, leader))
            again = wanted if leaders[0] >= 0 else (wanted + 1 + len(leaders)) % 3
            self.assertEqual([ticks(bob, 2), bob.holds()], [[[(again, letter)], []], ("crew", 4)])

    def test_elsewhere_for_an_ask_that_is_over(self):
        """An elder ask, also the want behind which it told: nothing changes."""
        bob = self.member()
        bob.tick()
        [(_, letter)] = bob.take(self.give(1))
        bob.take(("elsewhere", "bob", 1, 2))
        self.assertEqual(ticks(bob, 5), [[], [], [], [], [(1, letter)]])

    def test_a_give_behind_elsewhere(self):
        """The done goes to the broker that is believed in by now, and the ask is not sent again."""
        bob = self.member()
        bob.tick()
        bob.take(("elsewhere", "bob", 1, 2))
        self.assertEqual(bob.take(self.give(1, body="y"))[0], (2, ("done", "bob", 2, "crew", 4, (2, 7), ())))
        self.assertEqual(ticks(bob, 4), [[]] * 4)

    def test_rest_behind_elsewhere(self):
        bob = self.member()
        bob.tick()
        bob.take(("elsewhere", "bob", 1, 2))
        bob.take(("none", "bob", 1))
        self.assertEqual(ticks(bob, 4), [[], [], [], self.want(2, 2)])

    def test_no_letters(self):
        for ahead in (0, 1, 2):
            bob = self.member()
            if ahead:
                bob.tick()
            if ahead == 2:
                bob.take(self.give(1))
            before = (bob.holds(), bob.told())
            for letter in [*FALSE_LETTERS, ("send", "bob", 1, ONE), ("want", "bob", 1, "crew"),
                           ("nay", "bob", 1, "crew", 1, (1, 1)), ("done", "bob", 2, "crew", 1, (1, 1), ()),
                           ("make", "bob", 1, ("topic", "jobs", True)),
                           ("ask", 1, 1, 0, 0), ("got", 1, 1, True, 1), self.give(1, name="eve"), ("none", "eve", 1),
                           ("elsewhere", "ann", 1, 2), ("made", "bobb", 1)]:
                self.assert_given(InvalidLetter, letter, bob.take, letter)
                self.assert_given(InvalidLetter, letter, bob.take, letter=letter)
            self.assertEqual((bob.holds(), bob.told()), before)
            self.assertEqual(len([sent for sent in ticks(bob, 5) if sent]), 1)


class Whole(Case):
    """[147]: what holds of a producer wherever the power goes, and of members whatever comes."""

    def test_power_goes_at_each_call(self):
        """At each call on its disk, with falls that keep none, some and all of the entry; then it goes on."""
        for ops in range(16):
            for keeps in ([], [10 ** 9 + 7], [1], [25], [40]):
                with self.subTest(ops=ops, keeps=keeps):
                    disk = disk_of(f2=written(("mine", 1, ONE)))
                    disk.arm(ops)
                    self.check_run(disk, keeps)

    def check_run(self, disk, keeps):
        ann = Producer("ann", disk, 3)
        came, tried, acked, sent = 1, 1, 0, {}
        deeds = [("put", TWO), ("put", ONE), ("ok", 1), ("put", MOST), ("ok", 2), ("ok", 3), ("put", ONE), ("ok", 4)]
        try:
            for word, given in deeds:
                self.note(ann, sent)
                tried += word == "put"
                if word == "put":
                    ann.put(given)
                    came += 1
                else:
                    ann.take(("ok", "ann", given))
                    acked += 1
                self.assertEqual([ann.last(), len(ann.unacked())], [came, came - acked])
        except PowerCut:
            pass
        disk.fall(keeps)
        again = Producer("ann", disk, 3)
        self.assertIn(again.last(), (came, tried))
        self.assertIn(again.last() - len(again.unacked()), (acked, acked + 1))
        items = [ONE, TWO, ONE, MOST, ONE]
        done = again.last() - len(again.unacked())
        self.assertEqual(again.unacked(), list(enumerate(items[:again.last()], 1))[done:])
        self.note(again, sent)
        again.put(TWO)
        self.assertEqual(again.unacked()[-1], (again.last(), TWO))
        third = Producer("ann", disk, 3)
        self.assertEqual([third.unacked(), third.last()], [again.unacked(), again.last()])

    def note(self, ann, sent):
        """All letters with one number have the same items, those of the eldest."""
        for _, (_, _, number, items) in ann.tick() + ann.tick():
            self.assertEqual(sent.setdefault(number, items), items)
            self.assertEqual((number, items), ann.unacked()[0])

    def test_any_letters(self):
        """A member waits for one answer at most, and tells of what it was given alone."""
        for seed in range(60):
            source = random.Random(seed)
            bob = Member("bob", "crew", source.choice([None, "more"]), source.choice([1, 3, 5]))
            given, asks, waits, told = {}, 0, None, []
            for _ in range(300):
                letters = []
                if source.random() < 0.4:
                    letters = bob.tick()
                else:
                    letter = self.any_answer(source, waits)
                    self.assertTrue(is_letter(letter) and side(letter) == "answers")
                    letters = bob.take(letter)
                    if letters:
                        given[letter[4]] = letter
                        self.assertEqual([letter[2], letter[3]], [waits[2], "crew"])
                    if len(bob.told()) > len(told):
                        self.assertEqual(letter[1:6], waits[1:6])
                        told.append((letter[4], letter[0]))
                for to, letter in letters:
                    self.assertTrue(is_letter(letter) and side(letter) == "asks")
                    self.assertIn(letter[2], (asks, asks + 1))
                    if letter[2] == asks:
                        self.assertEqual(letter, waits)
                    elif letter[0] != "want":
                        self.assertEqual(letter[3:6], given[letter[4]][3:6])
                        self.assertEqual(bob.holds(), letter[3:5])
                    asks, waits = letter[2], letter
                self.assertLessEqual(len(letters), 1)
                self.assertEqual(bob.told(), told)
            self.assertGreater(len(told), 0)

    def any_answer(self, source, waits):
        ask = waits[2] if waits and source.random() < 0.8 else source.randrange(1, 30)
        number, token = source.randrange(1, 9), (source.randrange(1, 3), source.randrange(1, 3))
        if waits and waits[0] != "want" and source.random() < 0.7:
            number, token = waits[4:6]
        word = source.choice(["give", "none", "yes", "stale", "elsewhere"])
        if word == "give":
            group, body = source.choice(["crew", "gang"]), source.choice(["", "xx", "yy"])
            return word, "bob", ask, group, number, token, "jobs", "k", body
        if word == "none":
            return word, "bob", ask
        if word == "elsewhere":
            return word, "bob", ask, source.randrange(-1, 5)
        return word, "bob", ask, source.choice(["crew", "crew", "gang"]), number, token


if __name__ == "__main__":
    unittest.main()
