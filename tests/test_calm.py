"""Points [10] and [161] to [165]: calm, what is left, and within how many rounds it comes to its end."""

import random
import unittest

from inorderonce.calm import calm, enough, left, pairs
from inorderonce.clients import Producer
from inorderonce.errors import InvalidCount, InvalidName, InvalidWorld
from inorderonce.logs import log_meaning
from inorderonce.meaning import fold
from inorderonce.worlds import World
from tests.support import ITEM, NO_COUNTS, NO_NAMES, STRANGE, Case, any_act, any_item, any_world, nest, warm_acts

NO_WORLDS = [*STRANGE, World, 0, 1, "", "world", (), [World(1, [], [])], nest(1000)]
CARRY = ("carry", 0)


class Seen(World):
    """A world that tells which acts were done."""

    def __init__(self, brokers, producers, members):
        super().__init__(brokers=brokers, producers=producers, members=members)
        self.seen = []

    def act(self, act):
        self.seen.append(act)
        super().act(act)


def carry_all(world):
    while world.letters():
        world.act(CARRY)


def leading(brokers, producers, members, *commands):
    """A world in which broker 0 leads, and these commands were asked for, one after the other."""
    world = Seen(brokers, producers, members)
    for _ in range(7):
        world.act(("tick", 0))
        carry_all(world)
    for ask, command in enumerate(commands, 1):
        world.act(("make", "ops", ask, command))
        carry_all(world)
    world.seen.clear()
    return world


def sent(world, producer, *items):
    """Have a producer send items, and all letters come."""
    world.act(("send", producer, items))
    for _ in range(6):
        world.act(("tick", producer))
        carry_all(world)


def item(topic, body="", delay=0, span=0, key="k"):
    return topic, key, body, 0, delay, span


def topics(*names):
    return [("topic", name, False) for name in names]


class Rounds(Case):
    """[161]: what a round of calm does."""

    def test_acts_in_order(self):
        world = Seen(3, ["joe", "ann"], [("cy", "crew", None), ("bob", "crew", None)])
        world.run([("fall", 1, []), ("fall", "joe", []), ("tick", "bob")])
        self.assertIsNone(calm(world, 1))
        start = [("cut", 0, None, []), ("cut", 1, None, []), ("cut", 2, None, []), ("cut", "ann", None, []),
                 ("cut", "joe", None, []), *[("rise", who) for who in (0, 1, 2, "ann", "bob", "cy", "joe")]]
        self.assertEqual(world.seen[:len(start)], start)
        # bob's letter and the answer to it are carried; then nobody but the members sends anything.
        wants = [CARRY, CARRY]
        self.assertEqual(world.seen[len(start):], [
            *wants, ("tick", 0), ("tick", 1), ("tick", 2), ("tick", "ann"), ("tick", "bob"), *wants, ("tick", "cy"),
            *wants, ("tick", "joe")])
        self.assertEqual(world.letters(), [])

    def test_carrying_behind_each_tick(self):
        """The first letter on the way each time, until none is there."""
        world = leading(3, ["ann"], [("bob", "crew", None)], *topics("jobs"), ("group", "crew", "jobs", None))
        world.run([("send", "ann", (ITEM,)), ("send", "ann", (ITEM,))])
        world.seen.clear()
        calm(world, 1)
        ticks = [at for at, act in enumerate(world.seen) if act[0] == "tick"]
        self.assertEqual([world.seen[at] for at in ticks], [("tick", who) for who in (0, 1, 2, "ann", "bob")])
        self.assertEqual({act for act in world.seen[ticks[0]:] if act[0] != "tick"}, {CARRY})
        gaps = [after - before for before, after in zip(ticks, [*ticks[1:], len(world.seen)])]
        # Both others of broker 0 get a letter and answer; ann's is copied to two that answer, and then answered.
        self.assertEqual(gaps[:3], [5, 1, 1])
        self.assertGreater(min(gaps[3:]), 3)
        self.assertEqual([world.letters(), world.stands("ann")], [[], True])

    def test_rounds(self):
        one, other = Seen(3, ["ann"], []), Seen(3, ["ann"], [])
        self.assertIsNone(calm(one, 0))
        self.assertEqual([one.seen, one.letters()], [[], []])
        calm(world=one, rounds=9)
        for _ in range(9):
            calm(other, 1)
        self.assertEqual([one.seen, one.log(), one.reached()], [other.seen, other.log(), other.reached()])
        self.assertEqual(len([act for act in one.seen if act[0] == "rise"]), 36)

    def test_cuts_are_taken_back(self):
        """An armed disk is not armed any more, and who is fallen stands."""
        world = World(1, ["ann"], [])
        send = ("send", "ann", (ITEM,))
        world.run([("cut", 0, 0, []), ("cut", "ann", 0, []), send, ("rise", "ann"), send, ("cut", "ann", 0, [])])
        calm(world, 8)
        self.assertEqual([world.stands(0), world.stands("ann"), world.reached(), left(world)], [True, True, [2], 0])

    def test_raises(self):
        world = Seen(1, ["ann"], [])
        for value in NO_WORLDS:
            self.assert_given(InvalidWorld, value, calm, value, -1)
            self.assert_given(InvalidWorld, value, calm, rounds=0, world=value)
        for rounds in NO_COUNTS:
            self.assert_given(InvalidCount, rounds, calm, world, rounds)
        self.assertEqual(world.seen, [])


class Left(Case):
    """[162]: what is not done yet."""

    def test_sendings(self):
        """By what lies on the disks, of those who are fallen, too; they may count already."""
        world = leading(1, ["ann", "cy"], [], *topics("jobs"))
        self.assertEqual(left(world), 0)
        world.run([("send", "ann", (ITEM,) * 4), ("send", "ann", (ITEM,)), ("send", "cy", (ITEM,))])
        self.assertEqual(left(world), 3)
        world.run([("tick", "ann"), CARRY])
        self.assertEqual([left(world), world.log()[-1][1][:3]], [3, ("send", "ann", 1)])
        world.act(CARRY)
        self.assertEqual(left(world), 2)
        world.run([("fall", "ann", []), ("fall", "cy", [])])
        self.assertEqual(left(world=world), 2)

    def test_messages_that_wait(self):
        """For groups that have a member, fallen or not; each group and message once, whoever may take it."""
        world = leading(1, ["ann"], [("bob", "crew", None), ("eve", "crew", None), ("joe", "gang", None)],
                        *topics("jobs", "acts"), ("group", "crew", "jobs", None), ("group", "band", "jobs", None))
        sent(world, "ann", item("jobs"), item("jobs"), item("acts"))
        self.assertEqual([world.producer("ann").unacked(), left(world)], [[], 2])
        for name in ("bob", "eve", "joe"):
            world.act(("fall", name, []))
        self.assertEqual(left(world), 2)
        world.act(("make", "ops", 9, ("group", "gang", "acts", None)))
        self.assertEqual(left(world), 2)
        carry_all(world)
        self.assertEqual(left(world), 3)

    def test_by_what_is_taken(self):
        """Not by what a broker that leads has in its log alone, nor by what brokers have applied."""
        world = leading(3, ["ann"], [("bob", "crew", None)], *topics("jobs"), ("group", "crew", "jobs", None))
        world.run([("send", "ann", (ITEM, ITEM)), ("tick", "ann"), CARRY])
        self.assertEqual([left(world), len(world.log())], [1, 3])
        carry_all(world)
        self.assertEqual(left(world), 2)
        for number in (0, 1, 2):
            world.act(("fall", number, []))
        self.assertEqual(left(world), 2)

    def test_raises(self):
        for value in NO_WORLDS:
            self.assert_given(InvalidWorld, value, left, value)
            self.assert_given(InvalidWorld, value, enough, world=value)


class Pairs(Case):
    """[163]: for how many groups a message may wait, and what is made of it."""

    def test_readers_that_are_there(self):
        world = leading(1, [], [], *topics("jobs", "acts"), ("group", "crew", "jobs", None))
        self.assertEqual([pairs(world, name, 40, False) for name in ("jobs", "acts", "none")], [1, 0, 0])
        world.act(("make", "ops", 9, ("group", "band", "jobs", None)))
        carry_all(world)
        self.assertEqual([pairs(world, "jobs", 0, False), pairs(dead=True, signs=3, topic="jobs", world=world)], [2, 2])

    def test_dead(self):
        """What is dead goes on to the topic for the dead, but what was made so makes nothing further."""
        world = leading(1, [], [], *topics("a", "b", "c"), ("group", "one", "a", "b"), ("group", "two", "b", "c"),
                        ("group", "six", "c", None))
        self.assertEqual([[pairs(world, name, 1, dead) for name in "abc"] for dead in (False, True)],
                         [[2, 2, 1], [1, 1, 1]])

    def test_members(self):
        """A single one at a time: the greatest counts, and no body is made of fewer than 2 signs."""
        members = [("bob", "one", "b"), ("eve", "one", "c"), ("flo", "one", None), ("joe", "gone", "b")]
        world = leading(1, [], members, *topics("a", "b", "c"), ("group", "one", "a", None),
                        ("group", "two", "b", None), ("group", "six", "c", None), ("group", "ten", "c", None))
        self.assertEqual([pairs(world, "a", signs, False) for signs in (0, 1, 2, 40)], [1, 1, 3, 3])
        world.act(("fall", "eve", []))
        self.assertEqual([pairs(world, "a", 2, False), pairs(world, "a", 2, True)], [3, 3])

    def test_the_greatest_of_dead_and_members(self):
        members = [("bob", "one", "b")]
        world = leading(1, [], members, *topics("a", "b", "c"), ("group", "one", "a", "c"), ("group", "two", "b", None),
                        ("group", "six", "c", None), ("group", "ten", "c", None))
        self.assertEqual([pairs(world, "a", signs, False) for signs in (1, 2)], [3, 3])
        self.assertEqual([pairs(world, "a", signs, True) for signs in (1, 2)], [1, 2])

    def test_halves(self):
        """One that makes into its own topic: half of the signs each time, whatever is dead."""
        world = leading(1, [], [("bob", "crew", "jobs")], *topics("jobs"), ("group", "crew", "jobs", None))
        for signs, wanted in [(0, 1), (1, 1), (2, 2), (3, 2), (4, 3), (7, 3), (8, 4), (15, 4), (16, 5), (31, 5),
                              (32, 6), (40, 6)]:
            self.assertEqual([pairs(world, "jobs", signs, dead) for dead in (False, True)], [wanted, wanted])

    def test_what_is_made_of_the_dead(self):
        """It is not dead itself: of it something may be made for the dead again."""
        world = leading(1, [], [("bob", "two", "a")], *topics("a", "b"), ("group", "one", "a", "b"),
                        ("group", "two", "b", None))
        self.assertEqual([pairs(world, "a", signs, False) for signs in (1, 2, 4)], [2, 4, 6])
        self.assertEqual([pairs(world, "b", signs, True) for signs in (1, 2, 4)], [1, 3, 5])

    def test_each_reader_of_a_name(self):
        """Readers are unlike tuples: of one group there may be several; like ones count once, wherever they stand."""
        world = leading(1, [], [], *topics("jobs", "acts"), ("group", "crew", "jobs", None))
        again = ("group", "crew", "jobs", None)
        for ask, command in enumerate([again, again, ("group", "crew", "jobs", "acts"), ("group", "crew", "acts", None),
                                       ("topic", "jobs", True)], 10):
            world.act(("make", "ops", ask, command))
        self.assertEqual([pairs(world, "jobs", 1, False), pairs(world, "acts", 1, False)], [1 + 2, 1])
        for _ in range(5):
            world.act(("lose", 2))
        self.assertEqual([pairs(world, "jobs", 1, False), pairs(world, "acts", 1, False)], [1, 0])

    def test_rows_on_the_way_and_on_disks(self):
        """As long as they stand there, whether they counted or not, and whoever is fallen."""
        world = leading(3, [], [], *topics("jobs"))
        world.act(("make", "ops", 9, ("group", "crew", "jobs", None)))
        self.assertEqual(pairs(world, "jobs", 1, False), 1)
        world.run([("lose", 1), ("lose", 1), CARRY])
        self.assertEqual([[letter[0] for _, letter in world.letters()], len(world.log())], [["rows", "rows"], 2])
        self.assertEqual(pairs(world, "jobs", 1, False), 1)
        # On the way alone: the one that has it on its disk loses it, by the row of the next leader.
        world.run([("lose", 1), ("fall", 0, [10 ** 9])])
        self.assertEqual([len(world.letters()), pairs(world, "jobs", 1, False)], [1, 1])
        world.act(("lose", 0))
        self.assertEqual([world.letters(), pairs(world, "jobs", 1, False)], [[], 1])
        for _ in range(10):
            world.act(("tick", 1))
            carry_all(world)
        self.assertEqual([world.broker(1).role, pairs(world, "jobs", 1, False)], ["leads", 1])
        world.act(("rise", 0))
        for _ in range(3):
            world.act(("tick", 1))
            carry_all(world)
        self.assertEqual([world.broker(0).leader, pairs(world, "jobs", 1, False)], [1, 0])

    def test_rows_letters_alone(self):
        world = leading(3, [], [], *topics("jobs"))
        world.run([("make", "ops", 9, ("group", "crew", "jobs", None)), ("lose", 1), ("lose", 1), CARRY])
        # All disks are without the row again: it stands in a letter on the way alone.
        world.run([("double", 0), ("lose", 1), ("lose", 0), ("fall", 0, [])])
        for number in range(3):
            rows = log_meaning(world.disk(number))[5]
            self.assertEqual(("group", "crew", "jobs", None) in [command for _, command in rows], number == 0)
        for _ in range(10):
            world.act(("tick", 2))
        self.assertEqual([letter[0] for _, letter in world.letters()][:1], ["rows"])
        while len(world.letters()) > 1:
            world.act(("carry", 1))
        for _ in range(4):
            world.act(("tick", 2))
            while len(world.letters()) > 1:
                world.act(("carry", 1))
        world.act(("rise", 0))
        for _ in range(7):
            world.act(("tick", 2))
            while len(world.letters()) > 1:
                world.act(("carry", 1))
        self.assertEqual([world.letters()[0][1][0], len(world.letters()), world.broker(2).role], ["rows", 1, "leads"])
        for number in range(3):
            rows = log_meaning(world.disk(number))[5]
            self.assertNotIn(("group", "crew", "jobs", None), [command for _, command in rows])
        self.assertEqual(pairs(world, "jobs", 1, False), 1)
        world.act(("lose", 0))
        self.assertEqual(pairs(world, "jobs", 1, False), 0)

    def test_raises(self):
        world = leading(1, [], [])
        for value in NO_WORLDS:
            self.assert_given(InvalidWorld, value, pairs, value, None, -1, False)
            self.assert_given(InvalidWorld, value, pairs, value, "jobs", 1, False)
        for topic in NO_NAMES:
            self.assert_given(InvalidName, topic, pairs, world, topic, -1, False)
            self.assert_given(InvalidName, topic, pairs, world=world, topic=topic, signs=1, dead=True)
        for signs in NO_COUNTS:
            self.assert_given(InvalidCount, signs, pairs, world, "jobs", signs, False)
        self.assertEqual(world.seen, [])

    def test_it_is_counted_in_a_short_time(self):
        """Many readers and members, each of which makes into what the others read."""
        names = ["a", "b", "c", "d", "e", "f", "g", "h"]
        members = [(name + "x", name, names[at - 1]) for at, name in enumerate(names)]
        world = World(1, [], members)
        for name in names:
            for topic in names:
                world.act(("make", "ops", 1, ("group", name, topic, "abcdefgh"[names.index(topic) - 1])))
        self.assertEqual(pairs(world, "a", 40, False), sum([8 ** many for many in range(1, 13)]))


class Enough(Case):
    """[164]: how many rounds are enough."""

    def test_of_nothing(self):
        for brokers in (1, 3, 5):
            self.assertEqual(enough(World(brokers, [], [])), 20 + 6 * brokers)
            self.assertEqual(enough(World(brokers, ["ann"], [("bob", "crew", "jobs")])), 20 + 6 * brokers)

    def test_sendings(self):
        """The greatest number of one producer; those that are acked count no more."""
        world = leading(1, ["ann", "cy"], [])
        world.run([("send", "ann", (ITEM, ITEM))] + [("send", "cy", (ITEM,))] * 3)
        self.assertEqual(enough(world), 26 + 3)
        sent(world, "cy", ITEM)
        self.assertEqual([len(world.producer("cy").unacked()), enough(world)], [0, 26 + 1])
        world.act(("fall", "ann", []))
        self.assertEqual(enough(world=world), 26 + 1)

    def test_time(self):
        """Of kept messages from and until, less the time; of what is not acked delay and span."""
        for what, wanted in (((4, 0), 4), ((0, 7), 7), ((9, 3), 9), ((50, 50), 50), ((0, 0), 0)):
            world = leading(1, ["ann"], [], *topics("jobs"))
            world.act(("send", "ann", (item("jobs"), item("jobs", "", *what), item("jobs"))))
            self.assertEqual(enough(world), 26 + 1 + wanted)
            world.run([("tick", "ann"), CARRY])
            self.assertEqual([enough(world), left(world)], [26 + 1 + wanted, 1])
            world.act(CARRY)
            self.assertEqual([enough(world), left(world)], [26 + wanted, 0])
            for _ in range(4):
                world.act(("tick", 0))
            self.assertEqual([world.broker(0).state().now, enough(world)], [4, 26 + max(0, wanted - 4)])

    def test_waits(self):
        """8 for each pair: of kept messages, whoever waits for them, and of items that are not acked."""
        world = leading(1, ["ann"], [], *topics("jobs", "acts", "dead"), ("group", "crew", "jobs", "dead"),
                        ("group", "band", "jobs", None), ("group", "last", "dead", None))
        self.assertEqual(enough(world), 26)
        # The first one may wait for two groups, and as dead for one more.
        world.act(("send", "ann", (item("jobs", "a"), item("none"), item("acts"))))
        self.assertEqual(enough(world), 26 + 1 + 8 * 3)
        world.run([("tick", "ann"), CARRY])
        self.assertEqual(enough(world), 26 + 1 + 8 * 6)
        world.act(CARRY)
        self.assertEqual(enough(world), 26 + 8 * 3)

    def test_waits_of_the_dead(self):
        """A message that was made for the dead makes none further; its maker tells so."""
        commands = [*topics("jobs", "dead", "more"), ("group", "crew", "jobs", "dead"),
                    ("group", "last", "dead", "more"), ("group", "end", "more", None)]
        world = leading(1, ["ann"], [], *commands)
        world.act(("send", "ann", (item("jobs", "a", 0, 1),)))
        self.assertEqual(enough(world), 26 + 1 + 1 + 8 * 2)
        world.run([("tick", "ann"), CARRY, CARRY, *[("tick", 0)] * 4])
        state = world.broker(0).state()
        self.assertEqual([state.counts("crew"), state.waiting("last"), enough(world)], [(0, 1), [2], 26 + 8 * 1])
        world = leading(1, ["ann"], [], *commands)
        sent(world, "ann", item("dead", "a"))
        self.assertEqual(enough(world), 26 + 8 * 2)

    def test_waits_by_the_signs_of_the_body(self):
        world = leading(1, ["ann"], [("bob", "crew", "jobs")], *topics("jobs"), ("group", "crew", "jobs", None))
        for body, many in (("", 1), ("a", 1), ("ab", 2), ("abc", 2), ("abcd", 3)):
            world.act(("send", "ann", (item("jobs", body),)))
            many_so_far = sum([1, 1, 2, 2, 3][:["", "a", "ab", "abc", "abcd"].index(body) + 1])
            self.assertEqual(enough(world), 26 + len(world.producer("ann").unacked()) + 8 * many_so_far)
            self.assertEqual(pairs(world, "jobs", len(body), False), many)


def plain_readers(world):
    """[163]: told once more, plainly."""
    commands = [command for _, command in world.log()]
    found = set(fold(commands).groups())
    held = [letter[3] for _, letter in world.letters() if letter[0] == "make"]
    for _, letter in world.letters():
        if letter[0] == "rows":
            held.extend([command for _, command in letter[5]])
    for number in range(world.brokers()):
        held.extend([command for _, command in log_meaning(world.disk(number))[5]])
    found.update([command[1:] for command in held if command[0] == "group"])
    return found


def plain_pairs(world, readers, topic, signs, dead):
    total = 0
    for group, read, buried in readers:
        if read == topic:
            counts = [0]
            if buried is not None and not dead:
                counts.append(plain_pairs(world, readers, buried, signs, True))
            for _, name, made in world.members():
                if name == group and made is not None and signs > 1:
                    counts.append(plain_pairs(world, readers, made, signs // 2, False))
            total += 1 + max(counts)
    return total


def plain_enough(world):
    state = fold([command for _, command in world.log()])
    readers = plain_readers(world)
    unacked = [Producer(name, world.disk(name), 1).unacked() for name in world.producers()]
    time, waits = 0, 0
    for topic, _ in state.topics():
        for number in state.kept(topic):
            _, topic, _, body, _, since, until, maker = state.message(number)
            time = max(time, since - state.now, until - state.now)
            waits += plain_pairs(world, readers, topic, len(body), len(maker) == 3)
    for sendings in unacked:
        for _, items in sendings:
            for topic, _, body, _, delay, span in items:
                time = max(time, delay, span)
                waits += plain_pairs(world, readers, topic, len(body), False)
    return 20 + 6 * world.brokers() + max([0, *[len(held) for held in unacked]]) + time + 8 * waits


def plain_left(world):
    state = fold([command for _, command in world.log()])
    waiting = {(group, number) for _, group, _ in world.members() for group, *_ in state.groups()
               for number in state.waiting(group) if group in [row[1] for row in world.members()]}
    return len(waiting) + sum([len(Producer(name, world.disk(name), 1).unacked()) for name in world.producers()])


class Runs(unittest.TestCase):
    """[10], [165]: whatever acts a world has behind it, in a calm all comes to its end."""

    def any_world(self, seed, many):
        source = random.Random(seed)
        world = World(*any_world(source))
        for act in warm_acts(world) if seed % 3 else []:
            if act is None:
                carry_all(world)
            else:
                world.act(act)
        for _ in range(many):
            world.act(any_act(source, world, 0.05))
            if source.random() < 0.3:
                world.act(("tick", source.randrange(world.brokers())))
                carry_all(world)
        for name in world.producers():
            for _ in range(source.choice([0, 0, 4, 9])):
                world.act(("send", name, (any_item(source), any_item(source))))
        return world

    def test_calm(self):
        lefts, late = 0, 0
        for seed in range(90):
            with self.subTest(seed=seed):
                world = self.any_world(seed, 20 + 3 * seed)
                lefts += left(world) > 4
                for _ in range(seed % 3):
                    calm(world, 1)
                self.assertEqual([left(world), enough(world)], [plain_left(world), plain_enough(world)])
                late += self.check_calm(world) > 8 + 6 * world.brokers()
        self.assertGreater(lefts, 20)
        self.assertGreater(late, 3)

    def check_calm(self, world):
        """Round by round; return behind which one nothing was left."""
        rounds, leaders, done = enough(world), [], None
        taken = None
        for at in range(1, max(rounds, 8 + 6 * world.brokers()) + 3):
            calm(world, 1)
            self.assertEqual(world.letters(), [])
            roles = [world.broker(number).role for number in range(world.brokers())]
            leads = [number for number, role in enumerate(roles) if role == "leads"]
            for number in leaders:
                self.assertIn(number, leads)
            leaders = leads
            if at >= 8 + 6 * world.brokers():
                taken = self.check_leader(world, leads, taken)
            if at >= rounds:
                self.assertEqual(left(world), 0)
            if done is None and left(world) == 0:
                done = at
            if done is not None and at > rounds // 4 + 60:
                # It is checked above that what is left stays 0: not round by round, where this takes long.
                calm(world, max(0, rounds - at))
                self.assertEqual(left(world), 0)
                break
        return done

    def check_leader(self, world, leads, before):
        """One leads, all others follow it, and have all rows; return who it is and what it has taken."""
        self.assertEqual(len(leads), 1)
        leader = world.broker(leads[0])
        for number in range(world.brokers()):
            broker = world.broker(number)
            self.assertEqual([broker.leader, broker.last()], [leads[0], leader.last()])
            if before is not None:
                self.assertEqual(leads[0], before[0])
                self.assertGreaterEqual(broker.taken, before[1])
        self.assertEqual(leader.last()[0], leader.taken)
        return leads[0], leader.taken


if __name__ == "__main__":
    unittest.main()
