"""Points [3], [6], [7] and [151] to [155]: worlds, one act at a time. Whole runs of them are in test_runs."""

import unittest

from inorderonce.brokers import Broker
from inorderonce.clients import Member, Producer
from inorderonce.disks import Disk
from inorderonce.errors import Fallen, InvalidAct, InvalidActs, InvalidBrokers, InvalidName, InvalidWorld
from inorderonce.logs import log_meaning
from inorderonce.worlds import World
from tests.support import FALSE_LETTERS, ITEM, NO_BROKERS, NO_INTEGERS, NO_LISTS, NO_NAMES, STRANGE, Case, nest

TOPIC, GROUP = ("topic", "jobs", False), ("group", "crew", "jobs", None)
BOB, EVE = ("bob", "crew", None), ("eve", "band", "more")
NAMES = ["ann", "bob", "cy", "deb", "eve", "flo", "gus", "hal", "ida"]
LEAD = [("tick", 0)] * 7


def carry_all(world):
    while world.letters():
        world.act(("carry", 0))


def leading(brokers=1, producers=("ann",), members=(BOB,)):
    """A world in which broker 0 leads, and all its letters have come."""
    world = World(brokers, producers, members)
    for act in LEAD:
        world.act(act)
        carry_all(world)
    return world


def told_by(world):
    """All that a world tells."""
    whos = list(range(world.brokers())) + world.producers() + [name for name, _, _ in world.members()]
    told = [world.letters(), world.answers(), world.reached(), world.log(), [world.stands(who) for who in whos]]
    for who in list(range(world.brokers())) + world.producers():
        disk = world.disk(who)
        told.append([(name, disk.read(name), disk.synced(name)) for name in disk.names()] + [disk.ops()])
    for name in world.producers():
        if world.stands(name):
            told.append([world.producer(name).unacked(), world.producer(name).last()])
    for name, _, _ in world.members():
        if world.stands(name):
            told.append([world.member(name).holds(), world.member(name).told()])
    for number in range(world.brokers()):
        if world.stands(number):
            broker = world.broker(number)
            told.append([broker.role, broker.leader, broker.term, broker.taken, broker.base, broker.applied,
                         broker.last(), broker.leases(), broker.state()])
    return told


class Made(Case):
    """[151]: worlds as they are made."""

    def test_at_first(self):
        for brokers in (1, 3, 5):
            world = World(brokers=brokers, producers=("joe", "ann"), members=(EVE, BOB))
            self.assertEqual([world.brokers(), world.producers(), world.members()],
                             [brokers, ["ann", "joe"], [BOB, EVE]])
            self.assertEqual([world.letters(), world.answers(), world.reached(), world.log()],
                             [[], [], [0] * brokers, []])
            for who in [*range(brokers), "ann", "joe", "bob", "eve"]:
                self.assertIs(world.stands(who), True)
            for who in [*range(brokers), "ann", "joe"]:
                self.assertEqual([world.disk(who), world.disk(who).ops()], [Disk(), 0])
            self.assertEqual([type(world.broker(0)), type(world.producer("ann")), type(world.member("bob"))],
                             [Broker, Producer, Member])
        world = World(1, [], [])
        self.assertEqual([world.producers(), world.members()], [[], []])

    def test_as_many_as_may_be(self):
        members = [(name + "x", "crew", name) for name in NAMES[:8]]
        world = World(5, NAMES[:8], members)
        self.assertEqual([world.producers(), world.members()], [NAMES[:8], members])
        self.assertEqual(world.member("annx").made, "ann")

    def test_what_is_passed_stays(self):
        producers, members = ["joe", "ann"], [EVE, BOB]
        world = World(1, producers, members)
        producers.append("cy")
        members.pop()
        self.assertEqual([producers, members], [["joe", "ann", "cy"], [EVE]])
        world.producers().clear()
        world.members().clear()
        world.reached().clear()
        self.assertEqual([world.producers(), world.members(), world.reached()], [["ann", "joe"], [BOB, EVE], [0]])

    def test_no_brokers(self):
        for brokers in NO_BROKERS:
            self.assert_given(InvalidBrokers, brokers, World, brokers, None, None)
            self.assert_given(InvalidBrokers, brokers, World, members=[], producers=[], brokers=brokers)

    def test_no_producers(self):
        wrong = [*[value for value in NO_LISTS if value != ()], *[[name] for name in NO_NAMES], NAMES, ["ann", "ann"],
                 ["ann", "bob", "ann"], ("bob", "bob"), [("ann",)], ["ann", None], nest(1000)]
        for producers in wrong:
            self.assert_given(InvalidWorld, producers, World, 1, producers, None)
            self.assert_given(InvalidWorld, producers, World, brokers=5, producers=producers, members=[])

    def test_no_members(self):
        wrong = [*[value for value in NO_LISTS if value != ()], [None], [()], [BOB[:2]], [(*BOB, None)], [list(BOB)],
                 [BOB, BOB], [BOB, ("bob", "band", "more")], [BOB, ("ann", "crew", None)], [("ann", "crew", None)],
                 [(name, "crew", None) for name in NAMES], [BOB, None], BOB, [[BOB]], nest(1000)]
        for name in NO_NAMES:
            wrong.extend([[(name, "crew", None)], [("bob", name, None)]])
            if name is not None:
                wrong.append([BOB, ("eve", "crew", name)])
        for members in wrong:
            self.assert_given(InvalidWorld, members, World, 1, ["ann"], members)
            self.assert_given(InvalidWorld, members, World, members=members, producers=("ann",), brokers=3)


class Ticks(Case):
    """[152]: ticks and letters on the way."""

    def test_tick(self):
        world = World(3, ["ann"], [BOB])
        self.assertIsNone(world.act(("tick", "bob")))
        want = ("want", "bob", 1, "crew")
        self.assertEqual(world.letters(), [(0, want)])
        world.act(act=("tick", "ann"))
        self.assertEqual(world.letters(), [(0, want)])
        world.run(LEAD)
        self.assertEqual(world.letters(), [(0, want), (1, ("ask", 1, 0, 0, 0)), (2, ("ask", 1, 0, 0, 0))])
        self.assertEqual([world.broker(0).role, world.broker(1).role], ["asks", "follows"])
        world.letters().clear()
        self.assertEqual(len(world.letters()), 3)

    def test_one_that_is_fallen_does_not_tick(self):
        world = World(1, ["ann"], [BOB])
        for who in (0, "ann", "bob"):
            world.act(("fall", who, []))
            before = told_by(world)
            world.run([("tick", who)] * 8)
            self.assertEqual(told_by(world), before)

    def test_carry(self):
        """The letter with the number k mod how many there are; what comes of it goes behind those on the way."""
        world = World(3, [], [BOB, EVE])
        world.run([("tick", "bob"), ("tick", "eve"), ("make", "ops", 7, TOPIC)])
        ways = [(0, ("want", "bob", 1, "crew")), (0, ("want", "eve", 1, "band"))]
        ways.extend([(number, ("make", "ops", 7, TOPIC)) for number in range(3)])
        self.assertEqual(world.letters(), ways)
        world.act(("carry", 11))
        self.assertEqual(world.letters(), [ways[0], *ways[2:], ("eve", ("elsewhere", "eve", 1, -1))])
        world.act(("carry", 999999999999999))
        self.assertEqual(world.letters(), [ways[0], *ways[2:]])
        world.act(("carry", 3))
        self.assertEqual(world.letters()[3:], [("ops", ("elsewhere", "ops", 7, -1))])
        world.act(("carry", 3))
        self.assertEqual([len(world.letters()), world.answers()], [3, [("elsewhere", "ops", 7, -1)]])
        world.answers().clear()
        self.assertEqual(len(world.answers()), 1)

    def test_carry_to_one_that_is_fallen(self):
        """It is lost then; to a name of no client it is an answer, whoever is fallen."""
        world = World(1, ["ann"], [BOB])
        world.run([("tick", "bob"), ("carry", 0)])
        self.assertEqual(world.letters(), [("bob", ("elsewhere", "bob", 1, -1))])
        world.run([("fall", "bob", []), ("carry", 0)])
        self.assertEqual([world.letters(), world.answers()], [[], []])
        world.run([("rise", "bob"), ("tick", "bob"), ("fall", 0, []), ("make", "ops", 1, TOPIC)])
        self.assertEqual([to for to, _ in world.letters()], [0, 0])
        world.run([("carry", 1), ("carry", 0)])
        self.assertEqual([world.letters(), world.answers()], [[], []])

    def test_answers_to_clients_of_other_names(self):
        world = leading()
        carry = ("carry", 0)
        world.run([("make", "ops", 1, TOPIC), carry, carry, ("make", "joe", 4, TOPIC), carry, carry])
        self.assertEqual([world.answers(), world.letters()], [[("made", "ops", 1), ("made", "joe", 4)], []])

    def test_lose_and_double(self):
        world = World(3, [], [])
        world.run([("make", "ops", 1, TOPIC)])
        first, second, third = world.letters()
        world.act(("double", 4))
        self.assertEqual(world.letters(), [first, second, third, second])
        world.act(("lose", 6))
        self.assertEqual(world.letters(), [first, second, second])
        world.act(("double", 2))
        self.assertEqual(world.letters(), [first, second, second, second])
        world.run([("lose", 0), ("lose", 0), ("lose", 0), ("lose", 0)])
        self.assertEqual([world.letters(), world.answers(), world.reached()], [[], [], [0, 0, 0]])

    def test_without_letters(self):
        world = World(1, ["ann"], [BOB])
        before = told_by(world)
        for act in (("carry", 0), ("lose", 5), ("double", 0), ("carry", 10 ** 20)):
            world.act(act)
        self.assertEqual(told_by(world), before)

    def test_make(self):
        """To all brokers, also to fallen ones, behind what is on the way; the very letter."""
        world = World(3, [], [BOB])
        world.run([("tick", "bob"), ("fall", 1, [])])
        letter = ("make", "ops", 4, GROUP)
        world.act(letter)
        self.assertEqual(world.letters()[1:], [(0, letter), (1, letter), (2, letter)])
        for _, held in world.letters()[1:]:
            self.assertIs(held, letter)

    def test_send(self):
        """What is put lies on the disk at once; a producer that is fallen puts nothing."""
        world = World(1, ["ann"], [])
        world.act(("send", "ann", (ITEM,)))
        self.assertEqual([world.producer("ann").unacked(), world.letters()], [[(1, (ITEM,))], []])
        self.assertEqual(Producer("ann", world.disk("ann"), 1).last(), 1)
        world.run([("fall", "ann", []), ("send", "ann", (ITEM,) * 2), ("rise", "ann")])
        self.assertEqual(world.producer("ann").unacked(), [(1, (ITEM,))])


class Falls(Case):
    """[152]: falls, cuts and risings."""

    def test_memory_is_lost(self):
        world = leading()
        world.run([("tick", "bob"), ("carry", 0)])
        told = told_by(world)
        for who in (0, "ann", "bob"):
            self.assertIsNone(world.act(("fall", who, ())))
            self.assertIs(world.stands(who), False)
            before = told_by(world)
            world.act(("fall", who, [3]))
            self.assertEqual(told_by(world), before)
        world.run([("rise", 0), ("rise", "bob"), ("rise", "ann")])
        self.assertEqual([world.broker(0).role, world.broker(0).taken, world.broker(0).last()], ["follows", 0, (1, 1)])
        self.assertEqual([world.log(), world.letters()], [[(1, ("now", 0))], told[0]])
        self.assertEqual(world.disk(0).ops(), told[5][-1] + 1)
        # A member begins as a new one, whose asks are numbered from 1 on, and believes in broker 0.
        world.act(("tick", "bob"))
        self.assertEqual(world.letters()[-1], (0, ("want", "bob", 1, "crew")))

    def test_rise_of_one_that_stands(self):
        world = leading()
        world.run([("tick", "bob"), ("send", "ann", (ITEM,)), ("tick", "ann")])
        before = told_by(world)
        held = [world.broker(0), world.producer("ann"), world.member("bob")]
        for who in (0, "ann", "bob"):
            world.act(("rise", who))
        self.assertEqual(told_by(world), before)
        for one, again in zip(held, [world.broker(0), world.producer("ann"), world.member("bob")]):
            self.assertIs(one, again)

    def test_fall_keeps_as_the_disk_does(self):
        """What was cut amid a call falls with the keeps of the cut, as its disk tells."""
        for keeps, left in (([], []), ([0, 7], []), ([5], [("mine-0001", 5)]), ((20, 2), [("mine-0001", 20)])):
            world = World(1, ["ann"], [])
            world.run([("cut", "ann", 1, keeps), ("send", "ann", (ITEM,))])
            self.assertIs(world.stands("ann"), False)
            disk = world.disk("ann")
            self.assertEqual([(name, disk.synced(name)) for name in disk.names()], left)

    def test_cut_at_each_call(self):
        """With 0 calls left nothing is written; with 1 it is written and not synced; with 2 all is done."""
        all_of_it = [(1, (ITEM,))]
        for ops, stands, ticks in ((0, False, []), (1, False, []), (2, True, all_of_it), (None, True, all_of_it)):
            world = World(1, ["ann"], [])
            world.act(("cut", "ann", ops, []))
            self.assertEqual([world.stands("ann"), world.disk("ann").ops()], [True, 0])
            world.act(("send", "ann", (ITEM,)))
            self.assertIs(world.stands("ann"), stands)
            world.act(("rise", "ann"))
            self.assertEqual(world.producer("ann").unacked(), ticks)

    def test_cut_disk_stays_armed(self):
        """Until its calls are done, however many acts come between; the copy of a disk goes on by itself."""
        world = World(1, ["ann"], [])
        world.act(("cut", "ann", 3, [10 ** 9]))
        world.run([("tick", "ann")] * 3 + [("send", "ann", (ITEM,))])
        world.disk("ann").arm(None)
        self.assertIs(world.stands("ann"), True)
        world.act(("send", "ann", (ITEM,)))
        self.assertIs(world.stands("ann"), False)
        # Behind the fall the disk isn't armed any more.
        world.run([("rise", "ann")] + [("send", "ann", (ITEM,))] * 5)
        self.assertIs(world.stands("ann"), True)

    def test_a_cut_ends_with_a_fall(self):
        world = World(1, ["ann"], [])
        world.run([("cut", "ann", 0, []), ("fall", "ann", []), ("rise", "ann"), ("send", "ann", (ITEM,))])
        self.assertEqual([world.stands("ann"), world.producer("ann").last()], [True, 1])

    def test_cut_is_taken_back(self):
        world = World(1, ["ann"], [])
        world.run([("cut", "ann", 0, [7]), ("cut", "ann", None, []), ("send", "ann", (ITEM,))])
        self.assertIs(world.stands("ann"), True)

    def test_last_cut_counts(self):
        """Its ops and its keeps; one that comes while it is fallen does nothing."""
        world = World(1, ["ann"], [])
        world.run([("cut", "ann", 0, []), ("cut", "ann", 1, [9]), ("send", "ann", (ITEM,))])
        self.assertEqual([world.stands("ann"), world.disk("ann").synced("mine-0001")], [False, 9])
        world.run([("cut", "ann", 0, [3]), ("rise", "ann"), ("send", "ann", (ITEM,))])
        self.assertEqual([world.stands("ann"), world.disk("ann").names()], [True, ["mine-0001", "mine-0002"]])
        world.run([("cut", "ann", 1, [8, 4]), ("fall", "ann", []), ("cut", "ann", 1, [5]), ("rise", "ann"),
                   ("cut", "ann", None, [2]), ("send", "ann", (ITEM,))])
        self.assertIs(world.stands("ann"), True)

    def test_keeps_are_not_kept(self):
        keeps = [9]
        world = World(1, ["ann"], [])
        world.act(("cut", "ann", 1, keeps))
        keeps[0] = 4
        world.act(("send", "ann", (ITEM,)))
        self.assertEqual(world.disk("ann").synced("mine-0001"), 9)

    def test_cut_of_a_member(self):
        world = leading()
        before = told_by(world)
        world.act(("cut", "bob", 0, [1]))
        self.assertEqual(told_by(world), before)
        world.act(("tick", "bob"))
        self.assertEqual([world.stands("bob"), len(world.letters())], [True, 1])

    def test_power_goes_amid_a_tick(self):
        """What the call would have sent isn't sent."""
        world = World(3, [], [])
        world.run(LEAD[:6] + [("cut", 0, 1, [10 ** 9]), ("tick", 0)])
        self.assertEqual([world.stands(0), world.letters(), world.reached()], [False, [], [None, 0, 0]])
        world.run([("rise", 0)] + LEAD)
        self.assertEqual([world.stands(0), len(world.letters())], [True, 2])

    def test_power_goes_amid_a_take(self):
        """The letter is gone, and the one that took it has fallen; so too for a producer that is answered."""
        world = leading()
        world.run([("make", "ops", 1, TOPIC), ("cut", 0, 1, []), ("carry", 0)])
        self.assertEqual([world.stands(0), world.letters(), world.log(), world.answers()],
                         [False, [], [(1, ("now", 0))], []])
        world = leading()
        world.run([("send", "ann", (ITEM,)), ("tick", "ann"), ("carry", 0), ("cut", "ann", 1, []), ("carry", 0)])
        self.assertEqual([world.stands("ann"), world.letters()], [False, []])
        world.act(("rise", "ann"))
        self.assertEqual(world.producer("ann").unacked(), [(1, (ITEM,))])

    def test_rows_of_a_call_that_did_not_come_back(self):
        """The world asks behind each call that comes back alone; but what is taken then is told later."""
        world = leading()
        carry = ("carry", 0)
        world.run([("make", "ops", 1, TOPIC), ("cut", 0, 3, [10 ** 9]), ("make", "ops", 2, GROUP), carry, carry])
        self.assertEqual([world.log(), world.stands(0)], [[(1, ("now", 0)), (1, TOPIC)], False])
        world.run([("rise", 0)] + LEAD)
        self.assertEqual([world.log()[:2], world.reached()], [[(1, ("now", 0)), (1, TOPIC)], [len(world.log())]])


class Asked(Case):
    """[154], [155]: what a world tells."""

    def test_objects(self):
        """They are the very ones with which the world goes on until they fall."""
        world = leading()
        broker, ann, bob = world.broker(number=0), world.producer(name="ann"), world.member(name="bob")
        world.run([("send", "ann", (ITEM,)), ("make", "ops", 1, TOPIC), ("carry", 0)])
        self.assertIs(world.broker(0), broker)
        self.assertEqual([broker.taken, ann.last(), bob.holds()], [2, 1, None])
        for who in (0, "ann", "bob"):
            world.run([("fall", who, []), ("rise", who)])
        for old, new in ((broker, world.broker(0)), (ann, world.producer("ann")), (bob, world.member("bob"))):
            self.assertIsNot(old, new)

    def test_disk_is_a_copy(self):
        world = leading()
        world.act(("fall", 0, []))
        disk = world.disk(who=0)
        disk.write("x", "y")
        disk.arm(0)
        self.assertEqual(world.disk(0).names(), ["log-0001"])
        self.assertEqual(log_meaning(world.disk(0))[5], ((1, ("now", 0)),))

    def test_names(self):
        world = World(3, ["ann"], [BOB])
        for value in [*NO_NAMES[:-6], "joe", "crew", -1, 3, 5, 10 ** 20, (0,), ("ann",), nest(1000)]:
            if value in (0, 1, 2) and type(value) is int:
                continue
            for call in (world.stands, world.broker, world.producer, world.member, world.disk):
                self.assert_given(InvalidName, value, call, value)
        for value in (0, 2):
            self.assert_given(InvalidName, value, world.producer, value)
            self.assert_given(InvalidName, value, world.member, value)
        for call, name in [(world.broker, "ann"), (world.broker, "bob"), (world.producer, "bob"), (world.member, "ann"),
                           (world.disk, "bob")]:
            self.assert_given(InvalidName, name, call, name)
        self.assert_given(InvalidName, "joe", world.stands, who="joe")

    def test_fallen(self):
        world = World(3, ["ann"], [BOB])
        for who, call in ((2, world.broker), ("ann", world.producer), ("bob", world.member)):
            world.act(("fall", who, []))
            self.assert_tells(Fallen, {"who": who}, call, who)
            self.assertIs(world.stands(who), False)
        self.assert_given(InvalidName, "bob", world.broker, "bob")
        self.assertEqual(world.reached(), [0, 0, None])

    def test_reached_and_log(self):
        """Each index once, by whichever broker told it first; never forgotten."""
        world = leading(3)
        rows = [(1, ("now", 0))]
        self.assertEqual([world.reached(), world.log()], [[1, 0, 0], rows])
        world.act(("tick", 0))
        carry_all(world)
        self.assertEqual([world.reached(), world.log()], [[1, 1, 1], rows])
        for who in (0, 1, 2):
            world.act(("fall", who, []))
        self.assertEqual([world.reached(), world.log()], [[None] * 3, rows])
        world.log().clear()
        for who in (0, 1, 2):
            world.act(("rise", who))
        self.assertEqual([world.reached(), world.log()], [[0] * 3, rows])


def any_values():
    """Values of every other kind."""
    return [*STRANGE, "", "x", (), ("x",), -1, nest(1000)]


class Refused(Case):
    """[153]: acts that are none of this world."""

    def wrong(self):
        """Acts that are none of a world with brokers 0 to 2, the producer ann and the member bob."""
        acts = [*any_values(), 0, 1, "tick", ("tick",), ["tick", 0], ("tick", 0, 0), ("Tick", 0), (0, "tick"),
                ([], 0), ({}, 0), (("tick",), 0), ("carry",), ("carry", 0, 0), ["carry", 0], ("fall", 0),
                ("fall", 0, [], []), ["fall", 0, []], ("rise",), ("cut", 0, 1), ("cut", 0, []), ("cut", 0, 1, [], 0),
                ("send", "ann"), ("send", "ann", (ITEM,), 1), ["send", "ann", (ITEM,)], ("make", "ops", 1),
                ("want", "ops", 1, "crew"), ("calm", 3), ("ok", "ann", 1), ("topic", "jobs", False),
                ("send", "ann", 1, (ITEM,)), ("make", "ops", 1, TOPIC, 0), ["make", "ops", 1, TOPIC]]
        for who in [*NO_NAMES[:-6], "joe", "ops", "crew", -1, 3, 4, 5, (0,), ("ann",)]:
            if type(who) is int and who in (0, 1, 2):
                continue
            acts.extend([("tick", who), ("rise", who), ("fall", who, []), ("cut", who, 1, [])])
        for count in [*NO_INTEGERS, -1]:
            acts.extend([("carry", count), ("lose", count), ("double", count), ("fall", 0, [count]),
                         ("fall", 0, (1, count)), ("cut", 0, 1, [0, count])])
            if count is not None:
                acts.append(("cut", "ann", count, []))
        for keeps in NO_LISTS:
            acts.extend([("fall", 0, keeps), ("cut", 0, 1, keeps), ("fall", "bob", keeps),
                         ("cut", "bob", None, keeps)])
        for name in [*NO_NAMES, "bob", "joe", 0]:
            acts.append(("send", name, (ITEM,)))
        for items in [*any_values(), (ITEM,) * 5, [ITEM], ITEM, (ITEM[:5],), (list(ITEM),), (ITEM, 1)]:
            acts.append(("send", "ann", items))
        acts.extend([("make", "ann", 1, TOPIC), ("make", "bob", 1, TOPIC), ("make", "ops", 0, TOPIC),
                     ("make", "Ops", 1, TOPIC), ("make", 0, 1, TOPIC), ("make", "ops", True, TOPIC),
                     ("make", "ops", 1, ("now", 1)), ("make", "ops", 1, list(TOPIC)),
                     ("make", "ops", 1, ("topic", "jobs")), ("make", "ops", 10 ** 12, TOPIC)])
        return acts + [letter for letter in FALSE_LETTERS if type(letter) is tuple and letter[:1] == ("make",)]

    def right(self):
        """Acts that are just within."""
        return [("tick", 0), ("tick", 2), ("tick", "ann"), ("tick", "bob"), ("carry", 0), ("lose", 10 ** 14),
                ("double", 1), ("fall", 1, []), ("fall", "bob", (0,)), ("rise", 1), ("rise", "bob"),
                ("cut", 0, None, []), ("cut", 2, 0, (1, 2)), ("cut", "bob", 7, [3]),
                ("cut", "ann", 10 ** 14, [10 ** 14]), ("send", "ann", (ITEM,)), ("send", "ann", (ITEM,) * 4),
                ("make", "ops", 1, TOPIC), ("make", "crew", 999999999999, GROUP)]

    def test_act(self):
        world = World(3, ["ann"], [BOB])
        world.run([("tick", "bob"), ("send", "ann", (ITEM,))])
        before = told_by(world)
        for act in self.wrong():
            self.assert_given(InvalidAct, act, world.act, act)
            self.assert_given(InvalidAct, act, world.act, act=act)
            self.assertIs(world.has_act(act), False)
        self.assertEqual(told_by(world), before)
        for act in self.right():
            self.assertIs(world.has_act(act), True)
            self.assertIsNone(world.act(act))

    def test_by_its_own_names_and_numbers(self):
        """Another world has other brokers and clients."""
        world = World(1, ["joe", "bob"], [("ann", "crew", None)])
        for act in (("tick", 1), ("fall", 2, []), ("send", "ann", (ITEM,)), ("make", "joe", 1, TOPIC),
                    ("make", "ann", 1, TOPIC)):
            self.assert_given(InvalidAct, act, world.act, act)
        for act in (("tick", 0), ("send", "bob", (ITEM,)), ("send", "joe", (ITEM,)), ("cut", "joe", 5, [])):
            world.act(act)

    def test_run(self):
        """All is judged ahead of doing any of it."""
        world = World(3, ["ann"], [BOB])
        self.assertIsNone(world.run(self.right()))
        self.assertIsNone(world.run(tuple(self.right())))
        self.assertIsNone(world.run(acts=[]))
        before = told_by(world)
        for act in self.wrong():
            for acts in ([act], [("rise", 0), ("send", "ann", (ITEM,)), ("tick", "bob"), act], (act, ("tick", "bob"))):
                self.assert_given(InvalidActs, acts, world.run, acts)
        for acts in [*[value for value in NO_LISTS], ("tick", 0), nest(1000), [[("tick", 0)]]]:
            if acts != ():
                self.assert_given(InvalidActs, acts, world.run, acts=acts)
        self.assertEqual(told_by(world), before)

    def test_run_is_act_by_act(self):
        acts = [*LEAD, ("make", "ops", 1, TOPIC), ("carry", 0), ("make", "ops", 2, GROUP), ("carry", 1),
                ("send", "ann", (ITEM,)), ("tick", "ann"), ("carry", 2), ("tick", "bob"), ("carry", 3),
                ("cut", 0, 3, [5]), ("carry", 0), ("carry", 2)]
        one, other = World(1, ["ann"], [BOB]), World(1, ("ann",), (BOB,))
        one.run(acts)
        for act in acts:
            other.act(act)
        self.assertEqual(told_by(one), told_by(other))
        self.assertGreater(len(one.log()), 3)

    def test_worlds_are_not_compared(self):
        self.assertNotEqual(World(1, [], []), World(1, [], []))


if __name__ == "__main__":
    unittest.main()
