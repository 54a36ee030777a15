"""Points [9], [126], [135], [136], [147] and [156]: whole runs of worlds, with falls and cuts at any moment."""

import random
import unittest

from inorderonce.clients import Producer
from inorderonce.histories import fates, made_by, messages, sendings, settled, step
from inorderonce.letters import is_letter
from inorderonce.logs import log_meaning
from inorderonce.meaning import KEY, State, fold
from inorderonce.worlds import World
from tests.support import any_act, any_world, warm_acts


class Watch:
    """A world, and what must hold of it behind each act."""

    def __init__(self, case, brokers, producers, members):
        self.case = case
        self.world = World(brokers, producers, members)
        self.acts = []
        # The rows that are taken, the states behind each number of them, and which commands counted.
        self.log = []
        self.states = [State()]
        self.counted = []
        # Who led in each term; what was given by which token; what was sent by which number; what was asked for.
        self.leaders = {}
        self.given = {}
        self.sent = {}
        self.made = {}
        self.words = {}
        self.reached = [0] * brokers
        # At which call on its disk, and with what taken, each broker's disk was looked at last.
        self.looked = {}

    def act(self, act):
        """Do an act, and look at all that it brought."""
        world, before = self.world, self.world.letters()
        touched = act[1]
        if act[0] == "carry":
            touched = before[act[1] % len(before)][0] if before else None
        if act[0] == "make":
            self.made.setdefault(act[1:3], []).append(act[3])
        stood = {who: world.stands(who) for who in self.whos()}
        world.act(act)
        self.acts.append(act)
        self.hear_rows()
        letters = world.letters()
        new = letters[len(before) - (act[0] in ("carry", "lose") and len(before) > 0):]
        if act[0] not in ("make", "double"):
            for to, letter in new:
                self.check_letter(touched, to, letter)
        for who in self.whos():
            if who != touched or act[0] in ("lose", "double", "make"):
                self.case.assertEqual(world.stands(who), stood[who])
        if touched in self.whos():
            self.check_one(touched)

    def carry_all(self):
        while self.world.letters():
            self.act(("carry", 0))

    def whos(self):
        world = self.world
        return [*range(world.brokers()), *world.producers(), *[name for name, _, _ in world.members()]]

    def commands(self):
        return [command for _, command in self.log]

    def hear_rows(self):
        """[9], [156]: what is taken only grows."""
        log = self.world.log()
        self.case.assertEqual(log[:len(self.log)], self.log)
        for row in log[len(self.log):]:
            state = self.states[-1].copy()
            if step(state, row[1])[0]:
                self.counted.append(row[1])
            self.states.append(state)
        self.log = log

    def check_letter(self, sender, to, letter):
        """A letter that just went on the way."""
        case, world = self.case, self.world
        case.assertTrue(is_letter(letter))
        self.words[letter[0]] = self.words.get(letter[0], 0) + 1
        state = self.states[-1]
        if letter[0] == "give":
            _, member, _, group, number, token, *parts = letter
            own = world.broker(sender).state()
            case.assertEqual(own.message(number)[1:4], tuple(parts))
            case.assertEqual(self.given.setdefault(token, (group, number, member)), (group, number, member))
            case.assertIn((group, number, member, token), [lease[:4] for lease in world.broker(sender).leases()])
            case.assertEqual(own.first(group, parts[1]), number)
            case.assertEqual(self.leaders.setdefault(token[0], sender), sender)
        elif letter[0] == "ok":
            case.assertGreaterEqual(dict(state.producers())[to], letter[2])
        elif letter[0] == "made":
            there = [("topic", topic) for topic, _ in state.topics()] + [("group", row[0]) for row in state.groups()]
            case.assertTrue([command for command in self.made[letter[1:3]] if command[:2] in there])
        elif letter[0] == "yes":
            case.assertEqual(self.given[letter[5]], (letter[3], letter[4], to))
            case.assertTrue([command for command in self.counted if command[1:3] == letter[3:5] and (
                command[0] == "failed" or command[0] == "done" and command[3] == letter[5])])
        elif letter[0] == "send":
            _, name, number, items = letter
            case.assertEqual(self.sent.setdefault((name, number), items), items)
            case.assertEqual(Producer(name, world.disk(name), 1).unacked()[0], (number, items))
        elif letter[0] in ("done", "nay"):
            case.assertEqual(self.given[letter[5]], (letter[3], letter[4], letter[1]))

    def check_one(self, who):
        """The one to whom the act was done."""
        case, world = self.case, self.world
        if who in world.producers():
            self.check_producer(who)
        elif who in range(world.brokers()):
            if world.stands(who):
                self.check_broker(who, world.broker(who))
            self.check_disk(who)
        elif world.stands(who):
            case.assertEqual([number for number, word in world.member(who).told() if word not in ("yes", "stale")], [])

    def check_producer(self, name):
        """[9], [147]: those that count are a beginning of those that were put; only these are acked."""
        producer = Producer(name, self.world.disk(name), 1)
        acked = producer.last() - len(producer.unacked())
        counted = dict(self.states[-1].producers()).get(name, 0)
        self.case.assertLessEqual(acked, counted)
        self.case.assertLessEqual(counted, producer.last())
        if self.world.stands(name):
            held = self.world.producer(name)
            self.case.assertEqual([held.last(), held.unacked()], [producer.last(), producer.unacked()])

    def check_broker(self, number, broker):
        """[126], [156]: its rows and its state are those of what is taken."""
        case = self.case
        case.assertEqual(self.world.reached()[number], broker.taken)
        case.assertLessEqual(broker.taken, len(self.log))
        case.assertIn(broker.applied, (broker.taken, broker.base))
        for index in range(broker.base + 1, broker.taken + 1):
            case.assertEqual(broker.row(index), self.log[index - 1])
        case.assertEqual(broker.state(), self.states[broker.applied])
        if broker.role == "leads":
            case.assertEqual(self.leaders.setdefault(broker.term, number), number)
            case.assertEqual(broker.leader, number)
        else:
            case.assertEqual(broker.leases(), [])
        leases = broker.leases()
        case.assertEqual(len({lease[:2] for lease in leases}), len(leases))
        case.assertEqual(len({(lease[0], lease[2]) for lease in leases}), len(leases))
        for group, message, member, token, _ in leases:
            case.assertEqual(self.given[token], (group, message, member))
            case.assertIsNotNone(broker.state().tries(group, message))
        self.reached[number] = max(self.reached[number], broker.taken)

    def check_disk(self, number):
        """[9], [126]: nothing that was taken is missing, and a "done" tells of what was given by its token."""
        disk = self.world.disk(number)
        if self.looked.get(number) == (disk.ops(), self.reached[number]):
            return
        self.looked[number] = (disk.ops(), self.reached[number])
        _, _, base, _, _, rows = log_meaning(disk)
        self.case.assertGreaterEqual(base + len(rows), self.reached[number])
        for place, row in enumerate(rows, base):
            if place < self.reached[number]:
                self.case.assertEqual(row, self.log[place])
            if row[1][0] == "done":
                self.case.assertEqual(self.given[row[1][3]][:2], row[1][1:3])

    def check_whole(self):
        """[9], [135], [136]: what the history of all that is taken tells."""
        case, commands = self.case, self.commands()
        state = fold(commands)
        case.assertEqual(state, self.states[-1])
        case.assertEqual(len(messages(commands)), state.next - 1)
        for name in self.world.producers():
            self.check_producer(name)
            counted = sendings(commands, name)
            case.assertEqual(counted, [self.sent[name, number] for number in range(1, len(counted) + 1)])
            for number, items in enumerate(counted, 1):
                ids = made_by(commands, (name, number))
                case.assertEqual(ids, list(range(ids[0], ids[0] + len(ids))) if ids else [])
                case.assertLessEqual(len(ids), len(items))
        for group, _, _ in state.groups():
            told = fates(commands, group)
            for key in {key for key, _, _ in told}:
                ends = settled(commands, group, key)
                case.assertEqual(ends, [number for name, number, _ in told if name == key][:len(ends)])
            for key, number, fate in told:
                if fate[0] == "done":
                    case.assertEqual(self.given[fate[1]][:2], (group, number))
                if fate[0] == "waits":
                    case.assertEqual(state.message(number)[KEY], key)
        for who in self.whos():
            self.check_one(who)


class Runs(unittest.TestCase):
    """What holds at each step of any run."""

    def run_one(self, seed, many, falls):
        source = random.Random(seed)
        watch = Watch(self, *any_world(source))
        for act in warm_acts(watch.world) if seed % 3 else []:
            if act is None:
                watch.carry_all()
            else:
                watch.act(act)
        for at in range(many):
            watch.act(any_act(source, watch.world, falls))
            if source.random() < 0.35:
                watch.act(("tick", source.choice([*range(watch.world.brokers()), *watch.whos()])))
                watch.carry_all()
            if at == many // 2:
                watch.check_whole()
        watch.check_whole()
        return watch

    def test_runs(self):
        words, rows, terms, bases = {}, 0, 0, 0
        for seed in range(60):
            with self.subTest(seed=seed):
                watch = self.run_one(seed, 150 + 6 * seed, 0.04 if seed % 2 else 0.02)
                rows += len(watch.log)
                terms += len(watch.leaders)
                bases += sum([log_meaning(watch.world.disk(number))[2] > 0 for number in range(watch.world.brokers())])
                for word, many in watch.words.items():
                    words[word] = words.get(word, 0) + many
        # A word that hardly ever comes in such a run ("stale") is not asked for.
        for word in ("ask", "vote", "rows", "got", "whole", "send", "want", "done", "nay", "ok", "give", "none", "yes",
                     "made", "elsewhere"):
            self.assertGreater(words.get(word, 0), 40, words)
        self.assertGreater(min(rows // 10, terms, bases), 60, (rows, terms, bases))

    def test_equal_worlds(self):
        """[156]: equal arguments and equal acts, and all that is told is the same."""
        for seed in range(200, 212):
            watch = self.run_one(seed, 150, 0.05)
            world = watch.world
            again = World(world.brokers(), world.producers(), world.members())
            again.run(watch.acts)
            self.assertEqual([again.letters(), again.answers(), again.reached(), again.log()],
                             [world.letters(), world.answers(), world.reached(), world.log()])
            for who in [*range(world.brokers()), *world.producers()]:
                self.assertEqual([again.disk(who), again.disk(who).ops()], [world.disk(who), world.disk(who).ops()])

    def test_power_goes_at_each_call(self):
        """At each call on the disk of a broker and of a producer, with falls that keep none, some and all."""
        for who in (0, 1, "ann"):
            total = self.run_with_cut(who, None, []).disk(who).ops()
            self.assertGreater(total, 15)
            for ops in range(total):
                for keeps in ([], [10 ** 9 + 7], [30]):
                    with self.subTest(who=who, ops=ops, keeps=keeps):
                        self.assertIs(self.run_with_cut(who, ops, keeps).stands(who), False)

    def run_with_cut(self, who, ops, keeps):
        """A run in which all is used, each letter comes in turn, and this one is cut at this call."""
        watch = Watch(self, 3, ["ann"], [("bob", "g", "b")])
        watch.act(("cut", who, ops, keeps))
        deeds = {1: ("make", "ops", 1, ("topic", "a", False)), 2: ("make", "ops", 2, ("topic", "b", True)),
                 9: ("make", "ops", 3, ("group", "g", "a", "b"))}
        for at in range(26):
            watch.act(deeds.get(at, ("rise", "bob")))
            if at % 5 == 2:
                watch.act(("send", "ann", (("a", "k", "one", 0, 0, 9), ("a", "m", "xo", 0, 0, 0))[:1 + at % 2]))
            for one in (0, 1, 2, "ann", "bob"):
                watch.act(("tick", one))
                watch.carry_all()
        if not watch.world.stands(who):
            world = watch.world
            watch.act(("rise", who))
            for one in (0, 1, 2, "ann", "bob") * 12:
                watch.act(("tick", one))
                watch.carry_all()
            self.assertEqual(world.producer("ann").unacked(), [])
            watch.act(("fall", who, []))
        watch.check_whole()
        self.assertGreater(len(watch.log), 6)
        return watch.world


if __name__ == "__main__":
    unittest.main()
