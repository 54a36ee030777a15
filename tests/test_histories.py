"""Points [3], [6], [7] and [131] to [136]: what a list of commands says of each message."""

import random
import unittest

from inorderonce.errors import InvalidCommand, InvalidCommands, InvalidName, InvalidNumber, NoGroup
from inorderonce.histories import fates, gone, made_by, messages, sendings, settled, step
from inorderonce.meaning import State, fold
from tests.support import NO_LISTS, NO_NAMES, STRANGE, Case, any_command, nest

MADE = [("topic", "jobs", False), ("topic", "dead", True), ("group", "crew", "jobs", "dead")]
FAILED = [("failed", "crew", 1, tries) for tries in range(5)]
NO_COMMANDS = [*NO_LISTS, [None], (("now",),), [["now", 1]], [*MADE, ("now", -1)], [("ok", "ann", 1)], [MADE]]


def item(topic, key, body="", priority=0, delay=0, span=0):
    return topic, key, body, priority, delay, span


def send(producer, number, *items):
    return "send", producer, number, items


class Plain:
    """A plain account of [51] to [58], which forgets nothing: a list of all messages, and what befell each for whom."""

    def __init__(self):
        self.now, self.topics, self.groups, self.numbers = 0, {}, {}, {}
        self.made, self.gone, self.sent = [], [], []
        # For each group and id that ever waited its tries, or its fate.
        self.fates = {}
        self.order = []

    def first(self, group, key):
        waiting = [number for (name, number), fate in self.fates.items()
                   if name == group and isinstance(fate, int) and self.made[number - 1][2] == key]
        return min(waiting) if waiting else None

    def make(self, topic, key, body, priority, since, until, maker):
        number = len(self.made) + 1
        self.made.append((number, topic, key, body, priority, since, until, maker))
        for group, (read, _) in self.groups.items():
            if read == topic:
                self.fates[group, number] = 0

    def make_all(self, items, maker):
        for topic, key, body, priority, delay, span in items:
            if topic in self.topics:
                self.make(topic, key, body, priority, self.now + delay, span and self.now + span, maker)

    def settle(self, group, number, fate):
        self.fates[group, number] = fate
        self.order.append((group, number))
        _, dead = self.groups[group]
        message = self.made[number - 1]
        if fate[0] == "dead" and dead and len(message[7]) == 2:
            self.make(dead, message[2], message[3], 0, self.now, 0, (group, number, "dead"))

    def is_first(self, group, number):
        return (isinstance(self.fates.get((group, number)), int)
                and self.first(group, self.made[number - 1][2]) == number)

    def apply(self, command):
        word = command[0]
        if word == "topic":
            self.topics.setdefault(command[1], command[2])
        elif word == "group":
            _, group, topic, dead = command
            if group not in self.groups and topic in self.topics and (dead is None or dead in self.topics):
                self.groups[group] = (topic, dead)
                for message in self.made:
                    if message[1] == topic and message[0] not in self.gone:
                        self.fates[group, message[0]] = 0
        elif word == "send":
            if command[2] == self.numbers.get(command[1], 0) + 1:
                self.numbers[command[1]] = command[2]
                self.sent.append((command[1], command[3]))
                self.make_all(command[3], command[1:3])
        elif word == "done":
            if self.is_first(*command[1:3]):
                self.settle(command[1], command[2], ("done", command[3]))
                self.make_all(command[4], command[1:3])
        elif word == "failed":
            if self.is_first(*command[1:3]) and self.fates[command[1:3]] == command[3]:
                self.fates[command[1:3]] += 1
                if command[3] == 4:
                    self.settle(command[1], command[2], ("dead", "tries"))
        else:
            self.now = max(self.now, command[1])
        self.bury()
        self.let_go()

    def bury(self):
        while True:
            overdue = []
            for message in self.made:
                for group in self.groups:
                    if 0 < message[6] <= self.now and self.is_first(group, message[0]):
                        overdue.append((message[0], group))
            if not overdue:
                return
            number, group = min(overdue)
            self.settle(group, number, ("dead", "time"))

    def let_go(self):
        there = [message for message in self.made if message[0] not in self.gone]
        for number, topic, key, *_ in there:
            read = [group for group, (name, _) in self.groups.items() if name == topic]
            waits = [group for group in self.groups if isinstance(self.fates.get((group, number)), int)]
            last = max([other[0] for other in there if other[1:3] == (topic, key)])
            if read and not waits and not (self.topics[topic] and last == number):
                self.gone.append(number)

    def told_fates(self, group):
        found = []
        for (name, number), fate in self.fates.items():
            if name == group:
                fate = ("waits", fate) if isinstance(fate, int) else fate
                found.append((self.made[number - 1][2], number, fate))
        return sorted(found)


class Messages(Case):
    """[131]: all messages, and all sendings."""

    def test_messages(self):
        rows = [*MADE, send("ann", 1, item("jobs", "k", "one", 1, 2, 3), item("none", "k"), item("jobs", "m", "two")),
                ("now", 4), ("done", "crew", 2, (1, 1), (item("dead", "z", "new", 3),))]
        # The first one is dead by time at 4, and makes one more ahead of what the done makes.
        self.assertEqual(messages(rows), [
            (1, "jobs", "k", "one", 1, 2, 3, ("ann", 1)), (2, "jobs", "m", "two", 0, 0, 0, ("ann", 1)),
            (3, "dead", "k", "one", 0, 4, 0, ("crew", 1, "dead")), (4, "dead", "z", "new", 3, 4, 0, ("crew", 2)),
        ])
        self.assertEqual([messages([]), messages(()), messages(commands=tuple(rows)) == messages(rows)], [[], [], True])
        messages(rows).clear()
        self.assertEqual(len(messages(rows)), 4)

    def test_messages_that_are_gone(self):
        """They are told on."""
        rows = [*MADE, send("ann", 1, item("jobs", "k")), ("done", "crew", 1, (1, 1), ())]
        self.assertEqual([messages(rows), gone(rows)], [[(1, "jobs", "k", "", 0, 0, 0, ("ann", 1))], [1]])

    def test_sendings(self):
        """Those that count alone, whether their topics are there or not, and by their producer alone."""
        one, two = (item("jobs", "k"), item("none", "m")), (item("none", "k"),)
        rows = [send("ann", 2, *two), send("ann", 1, *one), send("ann", 1, *two), *MADE, send("ann", 3, *one),
                send("bob", 1, *two), send("ann", 2, *two), send("ann", 2, *one)]
        self.assertEqual([sendings(rows, "ann"), sendings(rows, "bob"), sendings(producer="cy", commands=rows)],
                         [[one, two], [two], []])
        self.assertEqual([sendings([], "ann"), sendings(rows, "crew")], [[], []])


class Fates(Case):
    """[132], [133]: how each message ended for a group."""

    def test_each_fate(self):
        rows = [*MADE, send("ann", 1, item("jobs", "k"), item("jobs", "k"), item("jobs", "b"),
                            item("jobs", "m", "", 0, 0, 2)),
                ("failed", "crew", 1, 0), ("failed", "crew", 3, 0), ("failed", "crew", 3, 1), ("failed", "crew", 3, 0)]
        self.assertEqual(fates(rows, "crew"), [("b", 3, ("waits", 2)), ("k", 1, ("waits", 1)), ("k", 2, ("waits", 0)),
                                               ("m", 4, ("waits", 0))])
        rows = [*rows, ("now", 2), *FAILED[1:], ("done", "crew", 3, (7, 9), ())]
        self.assertEqual(fates(rows, "crew"), [("b", 3, ("done", (7, 9))), ("k", 1, ("dead", "tries")),
                                               ("k", 2, ("waits", 0)), ("m", 4, ("dead", "time"))])
        self.assertEqual([settled(rows, "crew", key) for key in ("b", "k", "m", "z")], [[3], [1], [4], []])

    def test_commands_that_do_not_count(self):
        """They settle nothing: not the first, another token, other tries, another group."""
        rows = [*MADE, ("topic", "more", False), ("group", "gang", "more", None),
                send("ann", 1, item("jobs", "k"), item("jobs", "k"))]
        idle = [("done", "crew", 2, (1, 1), ()), ("done", "gang", 1, (1, 1), ()), ("done", "none", 1, (1, 1), ()),
                ("failed", "crew", 1, 1), ("failed", "crew", 2, 0), ("done", "crew", 3, (1, 1), ())]
        self.assertEqual(fates([*rows, *idle], "crew"), [("k", 1, ("waits", 0)), ("k", 2, ("waits", 0))])
        self.assertEqual(fates([*rows, *idle], "gang"), [])
        rows = [*rows, ("done", "crew", 1, (5, 1), ()), ("done", "crew", 1, (6, 1), ())]
        self.assertEqual(fates(rows, "crew"), [("k", 1, ("done", (5, 1))), ("k", 2, ("waits", 0))])

    def test_dead_behind_another_of_its_key(self):
        """What waits behind it, and is overdue, is dead by time behind the very command that settled the first."""
        behind = [item("jobs", "k", "", 0, 0, 1), item("jobs", "k", "", 0, 0, 1), item("jobs", "k")]
        for first, fate in ((FAILED, ("dead", "tries")), ([("done", "crew", 1, (1, 1), ())], ("done", (1, 1)))):
            rows = [*MADE, send("ann", 1, item("jobs", "k"), *behind), ("now", 3), *first]
            self.assertEqual(fates(rows, "crew"), [("k", 1, fate), ("k", 2, ("dead", "time")),
                                                   ("k", 3, ("dead", "time")), ("k", 4, ("waits", 0))])
            self.assertEqual(settled(rows, "crew", "k"), [1, 2, 3])

    def test_dead_behind_the_command_that_made_the_group(self):
        items = (item("jobs", "k", "", 0, 0, 2), item("jobs", "m"), item("jobs", "k"))
        rows = [*MADE[:2], send("ann", 1, *items), ("now", 2), MADE[2]]
        self.assertEqual(fates(rows, "crew"),
                         [("k", 1, ("dead", "time")), ("k", 3, ("waits", 0)), ("m", 2, ("waits", 0))])
        self.assertEqual([settled(rows, "crew", "k"), gone(rows), len(messages(rows))], [[1], [1], 4])
        # Another group that is made of it then has never seen it.
        rows = [*rows, ("group", "band", "jobs", None)]
        self.assertEqual(fates(rows, "band"), [("k", 3, ("waits", 0)), ("m", 2, ("waits", 0))])

    def test_each_group_by_itself(self):
        rows = [*MADE, ("group", "band", "jobs", None), send("ann", 1, item("jobs", "k", "", 0, 0, 4)),
                ("done", "band", 1, (2, 2), ()), ("now", 9)]
        self.assertEqual([fates(rows, "band"), fates(rows, "crew")],
                         [[("k", 1, ("done", (2, 2)))], [("k", 1, ("dead", "time"))]])
        rows = [*rows, ("group", "late", "dead", None), ("done", "late", 2, (3, 1), ())]
        self.assertEqual([fates(rows, "late"), settled(rows, "late", "k"), settled(rows, "crew", "k")],
                         [[("k", 2, ("done", (3, 1)))], [2], [1]])

    def test_no_group(self):
        rows = [*MADE, ("topic", "more", True)]
        for group in (*NO_NAMES, "jobs", "gang", "ann", nest(1000)):
            self.assert_tells(NoGroup, {"group": group}, fates, rows, group)
            self.assert_tells(NoGroup, {"group": group}, settled, rows, group, "k")
            self.assert_tells(NoGroup, {"group": group}, settled, rows, group, None)
            self.assert_tells(NoGroup, {"group": group}, fates, commands=rows, group=group)
        self.assert_tells(NoGroup, {"group": "crew"}, fates, [], "crew")
        # A group is one of the state behind the commands: not one whose command did not count.
        self.assert_tells(NoGroup, {"group": "gang"}, fates, [*rows, ("group", "gang", "none", None)], "gang")


class Gone(Case):
    """[134]: what went, and what a maker made."""

    def test_gone(self):
        """A topic that keeps the last ones keeps the one of each key; what no group reads stays."""
        rows = [("topic", "jobs", True), ("topic", "dead", False), ("group", "crew", "jobs", None),
                send("ann", 1, item("jobs", "k"), item("jobs", "k"), item("jobs", "m"), item("dead", "k"))]
        self.assertEqual(gone(rows), [])
        rows = [*rows, *[("done", "crew", number, (1, 1), ()) for number in (3, 1, 2)]]
        self.assertEqual(gone(rows), [1])
        rows = [*rows, send("ann", 2, item("jobs", "m"), item("jobs", "k"))]
        self.assertEqual(gone(rows), [1, 2, 3])
        self.assertEqual([gone([*rows, ("group", "late", "dead", None)]), gone(commands=[])], [[1, 2, 3], []])

    def test_in_ascending_order(self):
        rows = [*MADE, send("ann", 1, item("jobs", "k"), item("jobs", "m"), item("jobs", "z")),
                ("done", "crew", 3, (1, 1), ()), ("done", "crew", 1, (1, 1), ())]
        self.assertEqual(gone(rows), [1, 3])

    def test_made_by(self):
        rows = [*MADE, send("ann", 1, item("jobs", "k"), item("none", "k"), item("jobs", "m")),
                send("bob", 1, item("jobs", "k")), ("done", "crew", 2, (1, 1), (item("jobs", "z"), item("dead", "z"))),
                *FAILED, send("ann", 2, item("jobs", "k"))]
        for maker, wanted in [(("ann", 1), [1, 2]), (("bob", 1), [3]), (("crew", 2), [4, 5]), (("crew", 1), []),
                              (("crew", 1, "dead"), [6]), (("crew", 2, "dead"), []), (("ann", 2), [7]),
                              (("ann", 3), []), (("nobody", 10 ** 30), []), (("ann", 1, "dead"), [])]:
            self.assertEqual(made_by(rows, maker), wanted)
        self.assertEqual(made_by(maker=("ann", 1), commands=[]), [])

    def test_one_name_for_a_producer_and_a_group(self):
        rows = [*MADE, send("crew", 1, item("jobs", "k"), item("jobs", "m")),
                ("done", "crew", 1, (1, 1), (item("dead", "z"),))]
        self.assertEqual(made_by(rows, ("crew", 1)), [1, 2, 3])

    def test_no_maker(self):
        wrong = [*STRANGE, 0, 1, "", "ann", (), ("ann",), ["ann", 1], ("ann", 0), ("ann", -1), ("ann", True),
                 ("ann", 1.0), ("ann", "1"), ("Ann", 1), (1, "ann"), ("ann", 1, "Dead"), ("ann", 1, None),
                 ("ann", 1, "dead", 1), ("ann", 0, "dead"), ("", 1, "dead"), ("ann", 1, b"dead"), nest(1000)]
        for maker in wrong:
            self.assert_given(InvalidNumber, maker, made_by, MADE, maker)
            self.assert_given(InvalidNumber, maker, made_by, maker=maker, commands=[])


class Refused(Case):
    """[6], [131] to [134]: InvalidCommands comes ahead of the other errors."""

    def test_no_commands(self):
        for commands in NO_COMMANDS:
            for call, places in [(messages, []), (sendings, ["ann"]), (sendings, [None]), (fates, ["crew"]),
                                 (fates, [7]), (settled, ["crew", "k"]), (settled, [None, 7]), (gone, []),
                                 (made_by, [("ann", 1)]), (made_by, [None])]:
                self.assert_given(InvalidCommands, commands, call, commands, *places)
            self.assert_given(InvalidCommands, commands, messages, commands=commands)

    def test_no_names(self):
        for name in NO_NAMES:
            self.assert_given(InvalidName, name, sendings, MADE, name)
            self.assert_given(InvalidName, name, sendings, producer=name, commands=[])
            self.assert_given(InvalidName, name, settled, MADE, "crew", name)
            self.assert_given(InvalidName, name, settled, key=name, group="crew", commands=MADE)

    def test_what_is_passed_stays(self):
        rows = [*MADE, send("ann", 1, item("jobs", "k"))]
        before = list(rows)
        for call, places in [(messages, []), (sendings, ["ann"]), (fates, ["crew"]), (settled, ["crew", "k"]),
                             (gone, []), (made_by, [("ann", 1)])]:
            self.assertEqual(call(rows, *places), call(tuple(rows), *places))
            self.assertIs(type(call(rows, *places)), list)
        self.assertEqual(rows, before)


class Steps(Case):
    """What one command brings: the desk tells it, too."""

    def test_step(self):
        state = fold([*MADE[:2], send("ann", 1, item("jobs", "k", "", 0, 0, 2), item("jobs", "m")), ("now", 2)])
        made = (3, "dead", "k", "", 0, 2, 0, ("crew", 1, "dead"))
        self.assertEqual(step(state, MADE[2]), (True, [made], [(1, "crew")], [1]))
        self.assertEqual(step(state, MADE[2]), (False, [], [], []))
        self.assertEqual(step(state, ("done", "crew", 2, (1, 1), ())), (True, [], [(2, "crew")], [2]))
        self.assertEqual([state.kept("jobs"), state.kept("dead")], [[], [3]])
        self.assert_given(InvalidCommand, ("now",), step, state, ("now",))

    def test_order(self):
        """By id and then by group; what went by id, whatever its topic."""
        state = fold([("topic", "jobs", False), ("topic", "acts", False), ("group", "band", "jobs", None),
                      ("group", "crew", "jobs", None), ("group", "actors", "acts", None),
                      send("ann", 1, item("jobs", "k", "", 0, 0, 1), item("acts", "k", "", 0, 0, 1),
                           item("jobs", "m", "", 0, 0, 1))])
        ends = [(1, "band"), (1, "crew"), (2, "actors"), (3, "band"), (3, "crew")]
        self.assertEqual(step(state, ("now", 1)), (True, [], ends, [1, 2, 3]))


class Whole(unittest.TestCase):
    """[135], [136]: whole lists of commands, made at random."""

    def any_rows(self, seed, many):
        source = random.Random(seed)
        state, rows = State(), []
        for _ in range(many):
            rows.append(any_command(source, state))
            state.apply(rows[-1])
        return rows, state

    def check_plain(self, rows):
        """All is as a plain account tells it."""
        plain = Plain()
        for command in rows:
            plain.apply(command)
        self.assertEqual(messages(rows), plain.made)
        self.assertEqual(gone(rows), sorted(plain.gone))
        for producer in ("p", "q", "g"):
            self.assertEqual(sendings(rows, producer), [items for name, items in plain.sent if name == producer])
        for group in plain.groups:
            self.assertEqual(fates(rows, group), plain.told_fates(group))
            for key in ("k", "m"):
                order = [number for name, number in plain.order if name == group and plain.made[number - 1][2] == key]
                self.assertEqual(settled(rows, group, key), order)
        for maker in sorted({message[7] for message in plain.made})[::4]:
            self.assertEqual(made_by(rows, maker), [message[0] for message in plain.made if message[7] == maker])
        return plain

    def check_state(self, rows, state):
        """[135]: what fold says."""
        made, went = messages(rows), gone(rows)
        self.assertEqual(fold(rows), state)
        self.assertEqual([message[0] for message in made], list(range(1, state.next)))
        self.assertEqual(state.producers(),
                         [(name, len(sendings(rows, name))) for name in "gpq" if sendings(rows, name)])
        for group, _, _ in state.groups():
            told = fates(rows, group)
            self.assertEqual(sorted([(number, fate[1]) for _, number, fate in told if fate[0] == "waits"]),
                             [(number, state.tries(group, number)) for number in state.waiting(group)])
            words = [fate[0] for _, _, fate in told]
            self.assertEqual(state.counts(group), (words.count("done"), words.count("dead")))
            for key in ("k", "m"):
                ids = [number for name, number, _ in told if name == key]
                ends = settled(rows, group, key)
                self.assertEqual(ends, ids[:len(ends)])
        for topic, _ in state.topics():
            kept = [message for message in made if message[1] == topic and message[0] not in went]
            self.assertEqual([state.message(number) for number in state.kept(topic)], kept)
        topics = []
        numbers = {}
        for command in rows:
            if command[0] == "topic":
                topics.append(command[1])
            if command[0] == "send" and command[2] == numbers.get(command[1], 0) + 1:
                numbers[command[1]] = command[2]
                if command[2] > 3:
                    continue
                ids = made_by(rows, command[1:3])
                self.assertEqual([made[number - 1][1:5] for number in ids],
                                 [part[:4] for part in command[3] if part[0] in topics])
                self.assertEqual(ids, list(range(ids[0], ids[0] + len(ids))) if ids else [])

    def check_growth(self, rows, many):
        """[136]: what a beginning says of them."""
        begin = rows[:many]
        for call in (messages, lambda rows: sendings(rows, "p"), lambda rows: made_by(rows, ("p", 1)),
                     lambda rows: made_by(rows, ("g", 1, "dead"))):
            ahead = call(begin)
            self.assertEqual(call(rows)[:len(ahead)], ahead)
        self.assertEqual([number for number in gone(begin) if number not in gone(rows)], [])
        for group, _, _ in fold(begin).groups():
            for key in ("k", "m"):
                ahead = settled(begin, group, key)
                self.assertEqual(settled(rows, group, key)[:len(ahead)], ahead)
            behind = {number: fate for _, number, fate in fates(rows, group)}
            for _, number, fate in fates(begin, group):
                if fate[0] != "waits":
                    self.assertEqual(behind[number], fate)
                elif behind[number][0] == "waits":
                    self.assertGreaterEqual(behind[number][1], fate[1])

    def test_any(self):
        words = []
        for seed in range(60):
            with self.subTest(seed=seed):
                rows, state = self.any_rows(seed, 20 + 2 * seed)
                plain = self.check_plain(rows)
                self.check_state(rows, state)
                for many in (seed // 2, 10 + seed):
                    self.check_growth(rows, many)
                words.extend([fate if isinstance(fate, int) else fate[-1] for fate in plain.fates.values()])
        self.assertGreater(min(words.count("tries"), words.count("time"), words.count(0), words.count(3)), 5)


if __name__ == "__main__":
    unittest.main()
