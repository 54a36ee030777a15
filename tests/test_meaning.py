"""Points [3] to [7] and [51] to [60]: the meaning of rows."""

import copy
import random
import unittest

from inorderonce.errors import InvalidCommand, InvalidCommands, NoGroup, NoTopic
from inorderonce.meaning import State, fold
from inorderonce.pictures import picture, state_of
from tests.support import NO_INTEGERS, NO_LISTS, NO_NAMES, STRANGE, Case, any_command, nest

JOBS = ("topic", "jobs", False)
LAST = ("topic", "news", True)
CREW = ("group", "crew", "jobs", None)
# With these, one of each list, a run begins.
FIRST = [[("topic", "a", False), ("topic", "a", True)], [("topic", "b", True), ("now", 0)],
         [("group", "g", "a", "b"), ("group", "h", "a", None)],
         [("group", "h", "b", "a"), ("group", "i", "b", None), JOBS]]
NO_COMMANDS = [
    *STRANGE, 0, 1, "", "topic", (), ("topic",), ("topic", "jobs"), ["topic", "jobs", False], ("topic", "jobs", 0),
    ("topic", "Jobs", True), ("topic", "jobs", False, 0), ("group", "crew", "jobs"), ("group", "crew", "jobs", "jobs"),
    ("group", "crew", None, None), ("send", "ann", 0, (("a", "k", "", 0, 0, 0),)), ("send", "ann", 1, ()),
    ("send", "ann", 1, [("a", "k", "", 0, 0, 0)]), ("send", "ann", 1, (["a", "k", "", 0, 0, 0],)),
    ("send", "ann", 1, (("a", "k", "", 4, 0, 0),)), ("send", "ann", 1, (("a", "k", "", 0, 0, 0),) * 5),
    ("done", "crew", 1, (1, 1)), ("done", "crew", 1, [1, 1], ()), ("done", "crew", 0, (1, 1), ()),
    ("done", "crew", 1, (0, 1), ()),
    ("done", "crew", True, (1, 1), ()), ("done", "crew", 1, (1, 1), None), ("failed", "crew", 1, 5),
    ("failed", "crew", 1, -1),
    ("failed", "crew", 1, True), ("failed", "crew", 0, 0), ("failed", "crew", 1), ("now", -1), ("now", True),
    ("now", 1.0),
    ("now", 10 ** 12), ("now",), ("now", 1, 1), ("NOW", 1), ("later", 1), ("want", "bob", 1, "crew"), ("ok", "ann", 1),
    ("ask", 1, 0, 0, 0), nest(1000), nest(100000), ("now", nest(100000)),
]


def send(number, *items, producer="ann"):
    """A "send" command; each item is (topic, key, body) and perhaps priority, delay and span."""
    return "send", producer, number, tuple([item + (0, 0, 0)[len(item) - 3:] for item in items])


def done(group, number, *items):
    """A "done" command."""
    return "done", group, number, (1, 1), tuple([item + (0, 0, 0)[len(item) - 3:] for item in items])


def told_by(state):
    """All that a state tells, by its methods."""
    topics = state.topics()
    groups = state.groups()
    numbers = range(state.next + 3)
    keys = sorted({state.message(number)[2] for number in numbers if state.message(number)} | {"nokey"})
    return {
        "now": state.now, "next": state.next, "topics": topics, "groups": groups, "producers": state.producers(),
        "kept": [state.kept(topic) for topic, _ in topics], "messages": [state.message(number) for number in numbers],
        "waiting": [state.waiting(group) for group, _, _ in groups],
        "tries": [[state.tries(group, number) for number in numbers] for group, _, _ in groups],
        "first": [[state.first(group, key) for key in keys] for group, _, _ in groups],
        "counts": [state.counts(group) for group, _, _ in groups],
    }


class Plain:
    """A plain account of [51] to [58], which keeps all messages that were ever made and looks through all of them."""

    def __init__(self):
        self.now, self.topics, self.groups, self.producers = 0, {}, {}, {}
        self.made, self.gone, self.fates = [], set(), {}

    def waiting(self, group):
        return sorted([number for (name, number), fate in self.fates.items() if name == group and fate[0] == "waits"])

    def first(self, group, key):
        return min([number for number in self.waiting(group) if self.made[number - 1][2] == key], default=None)

    def is_first(self, group, number):
        waits = group in self.groups and number in self.waiting(group)
        return waits and self.first(group, self.made[number - 1][2]) == number

    def make(self, topic, key, body, priority, since, until, maker):
        number = len(self.made) + 1
        self.made.append((number, topic, key, body, priority, since, until, maker))
        for group, (read, _) in self.groups.items():
            if read == topic:
                self.fates[(group, number)] = ("waits", 0)

    def make_items(self, items, maker):
        for topic, key, body, priority, delay, span in items:
            if topic in self.topics:
                self.make(topic, key, body, priority, self.now + delay, self.now + span if span else 0, maker)

    def die(self, group, number):
        self.fates[(group, number)] = ("dead",)
        message = self.made[number - 1]
        topic = self.groups[group][1]
        if topic is not None and message[7][2:] != ("dead",):
            self.make(topic, message[2], message[3], 0, self.now, 0, (group, number, "dead"))

    def do(self, command):
        word, name = command[0], command[1]
        if word == "topic" and name not in self.topics:
            self.topics[name] = command[2]
        elif word == "group" and name not in self.groups and command[2] in self.topics \
                and (command[3] is None or command[3] in self.topics):
            self.groups[name] = command[2:]
            for message in self.made:
                if message[1] == command[2] and message[0] not in self.gone:
                    self.fates[(name, message[0])] = ("waits", 0)
        elif word == "send" and command[2] == self.producers.get(name, 0) + 1:
            self.producers[name] = command[2]
            self.make_items(command[3], (name, command[2]))
        elif word == "done" and self.is_first(name, command[2]):
            self.fates[(name, command[2])] = ("done",)
            self.make_items(command[4], (name, command[2]))
        elif word == "failed" and self.is_first(name, command[2]) and self.fates[name, command[2]][1] == command[3]:
            self.fates[(name, command[2])] = ("waits", command[3] + 1)
            if command[3] == 4:
                self.die(name, command[2])
        elif word == "now" and command[1] > self.now:
            self.now = command[1]
        else:
            return False
        return True

    def overdue(self):
        return [(number, group) for (group, number), fate in self.fates.items() if fate[0] == "waits"
                and self.is_first(group, number) and 0 != self.made[number - 1][6] <= self.now]

    def goes(self, message):
        number, topic, key = message[:3]
        read = topic in [read for read, _ in self.groups.values()]
        waits = [group for group in self.groups if self.fates.get((group, number), ("",))[0] == "waits"]
        others = [other[0] for other in self.made if other[1:3] == (topic, key) and other[0] not in self.gone]
        return read and not waits and not (self.topics[topic] and max(others) == number)

    def apply(self, command):
        counted = self.do(command)
        while self.overdue():
            number, group = min(self.overdue())
            self.die(group, number)
        self.gone |= {message[0] for message in self.made if message[0] not in self.gone and self.goes(message)}
        return counted

    def told(self):
        kept = [message for message in self.made if message[0] not in self.gone]
        numbers = range(len(self.made) + 4)
        groups = sorted(self.groups)
        keys = sorted({message[2] for message in kept} | {"nokey"})
        fates = [[self.fates.get((group, number), ("", None)) for number in numbers] for group in groups]
        return {
            "now": self.now, "next": len(self.made) + 1, "topics": sorted(self.topics.items()),
            "groups": [(group, *self.groups[group]) for group in groups], "producers": sorted(self.producers.items()),
            "kept": [[message[0] for message in kept if message[1] == topic] for topic in sorted(self.topics)],
            "messages": [next((message for message in kept if message[0] == number), None) for number in numbers],
            "waiting": [self.waiting(group) for group in groups],
            "tries": [[fate[1] if fate[0] == "waits" else None for fate in row] for row in fates],
            "first": [[self.first(group, key) for key in keys] for group in groups],
            "counts": [tuple([[fate[0] for fate in row].count(word) for word in ("done", "dead")]) for row in fates],
        }


class Applied(Case):
    """A test case that applies commands."""

    def apply(self, state, *steps):
        """Apply each (command, whether it counts)."""
        for command, counted in steps:
            self.assertIs(state.apply(command), counted, command)

    def check(self, state, **wanted):
        """Hold some of what a state tells against what is wanted, for each name of a dict of groups or topics."""
        for method, told in wanted.items():
            for name, value in told.items():
                self.assertEqual(getattr(state, method)(name), value, (method, name))


class Commands(Applied):
    """[51] to [56]: what each command does."""

    def test_empty(self):
        state = State()
        self.assertEqual([state.now, state.next, state.topics(), state.groups(), state.producers()], [0, 1, [], [], []])
        self.assertEqual([state.message(number) for number in (0, 1, 2)], [None, None, None])
        self.assertEqual(State(), fold([]))

    def test_topic(self):
        state = State()
        self.apply(state, (("topic", "b", True), True), (("topic", "a", False), True), (("topic", "b", True), False),
                   (("topic", "b", False), False), (("topic", "a", True), False), (("topic", "ab", True), True))
        self.assertEqual(state.topics(), [("a", False), ("ab", True), ("b", True)])
        self.check(state, kept={"a": [], "ab": [], "b": []})
        self.assertIs(state.apply(command=("topic", "c", False)), True)

    def test_group(self):
        state = fold([("topic", "a", False), ("topic", "b", True)])
        self.apply(state, (("group", "g", "c", None), False), (("group", "g", "a", "c"), False),
                   (("group", "g", "c", "a"), False),
                   (("group", "h", "a", "b"), True), (("group", "g", "b", None), True),
                   (("group", "g", "b", None), False),
                   (("group", "g", "a", None), False), (("group", "h", "b", None), False),
                   (("group", "a", "a", None), True))
        self.assertEqual(state.groups(), [("a", "a", None), ("g", "b", None), ("h", "a", "b")])
        self.check(state, waiting={"a": [], "g": [], "h": []}, counts={"a": (0, 0), "g": (0, 0)})

    def test_group_gets_what_is_kept(self):
        """Those that went are not for it; the tries begin anew."""
        state = fold([JOBS, send(1, ("jobs", "k", "one"), ("jobs", "m", "two"), ("jobs", "k", "six")), CREW])
        self.check(state, waiting={"crew": [1, 2, 3]})
        self.assertEqual([state.tries("crew", number) for number in range(5)], [None, 0, 0, 0, None])
        self.apply(state, (("failed", "crew", 1, 0), True), (done("crew", 2), True),
                   (("group", "late", "jobs", None), True))
        self.check(state, waiting={"crew": [1, 3], "late": [1, 3]}, kept={"jobs": [1, 3]}, counts={"late": (0, 0)})
        self.assertEqual([state.tries("late", 1), state.tries("crew", 1)], [0, 1])
        self.apply(state, (done("crew", 1), True), (done("crew", 3), True))
        self.check(state, waiting={"crew": [], "late": [1, 3]}, kept={"jobs": [1, 3]})

    def test_send(self):
        state = fold([JOBS, LAST, CREW, ("now", 10)])
        items = (("jobs", "k", "one", 3, 4, 5), ("none", "k", "lost", 0, 0, 0), ("news", "m", "", 0, 50, 0),
                 ("jobs", "k", "x", 0, 0, 50))
        self.apply(state, (("send", "ann", 2, items), False), (("send", "ann", 1, items), True))
        self.assertEqual([state.message(number) for number in range(1, 5)], [
            (1, "jobs", "k", "one", 3, 14, 15, ("ann", 1)), (2, "news", "m", "", 0, 60, 0, ("ann", 1)),
            (3, "jobs", "k", "x", 0, 10, 60, ("ann", 1)), None])
        self.assertEqual([state.next, state.producers()], [4, [("ann", 1)]])
        self.check(state, kept={"jobs": [1, 3], "news": [2]}, waiting={"crew": [1, 3]})
        self.apply(state, (("send", "ann", 1, items), False), (("send", "ann", 3, items), False))
        self.assertEqual(state.next, 4)
        self.apply(state, (("send", "ann", 2, items[:1]), True), (("send", "bob", 2, items), False),
                   (("send", "bob", 1, items[:1]), True))
        self.assertEqual([state.producers(), state.message(4)[7], state.message(5)[7]],
                         [[("ann", 2), ("bob", 1)], ("ann", 2), ("bob", 1)])

    def test_send_to_nothing(self):
        state = State()
        self.apply(state, (send(1, ("jobs", "k", "one")), True), (send(1, ("jobs", "k", "one")), False))
        self.assertEqual([state.next, state.producers()], [1, [("ann", 1)]])

    def test_send_to_several_groups(self):
        state = fold([JOBS, LAST, CREW, ("group", "gang", "jobs", "news"), ("group", "club", "news", None)])
        self.apply(state, (send(1, ("jobs", "k", "one"), ("news", "k", "two")), True))
        self.check(state, waiting={"crew": [1], "gang": [1], "club": [2]}, first={})
        self.assertEqual([state.first("crew", "k"), state.first("club", "k"), state.first("crew", "m")], [1, 2, None])
        self.apply(state, (done("crew", 1), True))
        self.check(state, waiting={"crew": [], "gang": [1], "club": [2]}, kept={"jobs": [1]},
                   counts={"crew": (1, 0), "gang": (0, 0)})

    def test_done(self):
        state = fold([JOBS, LAST, CREW, send(1, ("jobs", "k", "a"), ("jobs", "m", "b"), ("jobs", "k", "c"))])
        self.apply(state, (done("crew", 3), False), (done("gang", 1), False), (done("crew", 4), False),
                   (done("jobs", 1), False),
                   (done("crew", 1), True), (done("crew", 1), False), (done("crew", 3), True), (done("crew", 2), True))
        self.check(state, counts={"crew": (3, 0)}, waiting={"crew": []}, kept={"jobs": []})
        self.assertEqual([state.message(1), state.next], [None, 4])

    def test_done_makes_messages(self):
        state = fold([JOBS, LAST, CREW, ("now", 5), send(1, ("jobs", "k", "a"))])
        self.apply(state, (done("crew", 1, ("jobs", "k", "b", 2, 1, 3), ("none", "k", "c"), ("news", "m", "d")), True))
        self.assertEqual([state.message(2), state.message(3), state.message(4)], [
            (2, "jobs", "k", "b", 2, 6, 8, ("crew", 1)), (3, "news", "m", "d", 0, 5, 0, ("crew", 1)), None])
        self.check(state, waiting={"crew": [2]}, counts={"crew": (1, 0)})
        self.assertEqual(state.producers(), [("ann", 1)])

    def test_done_with_any_token(self):
        for token in [(1, 1), (7, 3), (10 ** 12 - 1, 10 ** 12 - 1)]:
            state = fold([JOBS, CREW, send(1, ("jobs", "k", "a"))])
            self.apply(state, (("done", "crew", 1, token, ()), True))

    def test_failed(self):
        """The fourth failure leaves it waiting, the fifth does not."""
        state = fold([JOBS, CREW, send(1, ("jobs", "k", "a"), ("jobs", "k", "b"))])
        self.apply(state, (("failed", "crew", 1, 1), False), (("failed", "crew", 2, 0), False),
                   (("failed", "gang", 1, 0), False),
                   (("failed", "crew", 3, 0), False))
        for tries in range(4):
            self.apply(state, (("failed", "crew", 1, tries), True), (("failed", "crew", 1, tries), False))
            self.assertEqual([state.tries("crew", 1), state.first("crew", "k"), state.counts("crew")],
                             [tries + 1, 1, (0, 0)])
        self.apply(state, (("failed", "crew", 1, 3), False), (("failed", "crew", 1, 4), True))
        self.assertEqual([state.tries("crew", 1), state.first("crew", "k"), state.counts("crew")], [None, 2, (0, 1)])
        self.check(state, waiting={"crew": [2]}, kept={"jobs": [2]})
        self.apply(state, (("failed", "crew", 2, 0), True))
        self.assertEqual([state.tries("crew", 2), state.next], [1, 3])

    def test_now(self):
        state = State()
        self.apply(state, (("now", 0), False), (("now", 3), True), (("now", 3), False), (("now", 2), False),
                   (("now", 4), True),
                   (("now", 10 ** 12 - 1), True))
        self.assertEqual(state.now, 10 ** 12 - 1)

    def test_invalid(self):
        state = fold([JOBS, CREW, send(1, ("jobs", "k", "a", 0, 0, 1))])
        before = told_by(state)
        for at, command in enumerate(NO_COMMANDS):
            with self.subTest(at=at):
                self.assert_given(InvalidCommand, command, state.apply, command)
                self.assert_given(InvalidCommand, command, state.apply, command=command)
                self.assertEqual(told_by(state), before)

    def test_a_wrong_command_settles_nothing(self):
        """[6], [83]: not even what is overdue in a picture."""
        state = state_of((9, 2, (("jobs", False),), (("crew", "jobs", None, 0, 0, ((1, 0),)),),
                          ((1, "jobs", "k", "a", 0, 0, 5, ("ann", 1)),), ()))
        self.assertRaises(InvalidCommand, state.apply, ("now", True))
        self.check(state, waiting={"crew": [1]}, kept={"jobs": [1]})


class Dead(Applied):
    """[55], [57]: what is overdue, and what is made for the dead."""

    def test_until(self):
        """Just reached, and not yet; 0 is never reached."""
        state = fold([JOBS, CREW, send(1, ("jobs", "k", "a", 0, 0, 5), ("jobs", "m", "b", 0, 0, 0),
                                       ("jobs", "n", "c", 0, 9, 6))])
        self.apply(state, (("now", 4), True))
        self.check(state, waiting={"crew": [1, 2, 3]}, counts={"crew": (0, 0)})
        self.apply(state, (("now", 5), True))
        self.check(state, waiting={"crew": [2, 3]}, counts={"crew": (0, 1)}, kept={"jobs": [2, 3]})
        self.apply(state, (("now", 6), True))
        self.check(state, waiting={"crew": [2]}, counts={"crew": (0, 2)}, kept={"jobs": [2]})
        self.apply(state, (("now", 10 ** 11), True))
        self.check(state, waiting={"crew": [2]}, counts={"crew": (0, 2)})

    def test_only_the_first_of_a_key(self):
        state = fold([JOBS, CREW, send(1, ("jobs", "k", "a"), ("jobs", "k", "b", 0, 0, 2),
                                       ("jobs", "k", "c", 0, 0, 1)), ("now", 9)])
        self.check(state, waiting={"crew": [1, 2, 3]}, counts={"crew": (0, 0)})
        self.apply(state, (done("crew", 1), True))
        self.check(state, waiting={"crew": []}, counts={"crew": (1, 2)}, kept={"jobs": []})

    def test_behind_the_fifth_failure(self):
        state = fold([JOBS, CREW, send(1, ("jobs", "k", "a"), ("jobs", "k", "b", 0, 0, 2)), ("now", 2)])
        for tries in range(5):
            self.check(state, waiting={"crew": [1, 2]})
            self.apply(state, (("failed", "crew", 1, tries), True))
        self.check(state, waiting={"crew": []}, counts={"crew": (0, 2)})

    def test_order_of_the_dead(self):
        """The least id first; of several groups the least name; what was behind may come ahead of the others."""
        state = fold([JOBS, LAST, ("topic", "dead", False), ("group", "h", "jobs", "dead"),
                      ("group", "g", "jobs", "dead"),
                      ("group", "a", "news", "dead"),
                      send(1, ("jobs", "k", "1", 0, 0, 1), ("jobs", "m", "2", 0, 0, 1), ("news", "k", "3", 0, 0, 1),
                           ("jobs", "k", "4", 0, 0, 1)),
                      ("now", 1)])
        self.assertEqual([state.message(number)[7][:2] for number in range(5, state.next)],
                         [("g", 1), ("h", 1), ("g", 2), ("h", 2), ("a", 3), ("g", 4), ("h", 4)])
        self.assertEqual([state.message(number)[3] for number in range(5, state.next)],
                         ["1", "1", "2", "2", "3", "4", "4"])
        self.check(state, kept={"jobs": [], "news": [3], "dead": list(range(5, 12))},
                   counts={"g": (0, 3), "h": (0, 3), "a": (0, 1)})

    def test_letter_for_the_dead(self):
        state = fold([JOBS, LAST, ("group", "crew", "jobs", "news"), ("now", 3),
                      send(1, ("jobs", "k", "a b", 3, 7, 4)), ("now", 9)])
        self.assertEqual([state.message(2), state.next], [(2, "news", "k", "a b", 0, 9, 0, ("crew", 1, "dead")), 3])
        self.check(state, kept={"jobs": [], "news": [2]}, counts={"crew": (0, 1)})

    def test_letter_for_the_fifth_failure(self):
        state = fold([JOBS, LAST, ("group", "crew", "jobs", "news"), ("group", "club", "news", None),
                      send(1, ("jobs", "k", "a", 2, 9, 0)),
                      ("now", 7), *[("failed", "crew", 1, tries) for tries in range(5)]])
        self.assertEqual(state.message(2), (2, "news", "k", "a", 0, 7, 0, ("crew", 1, "dead")))
        self.check(state, waiting={"crew": [], "club": [2]}, counts={"crew": (0, 1)})

    def test_no_topic_for_the_dead(self):
        state = fold([JOBS, CREW, send(1, ("jobs", "k", "a", 0, 0, 1)), ("now", 1)])
        self.assertEqual([state.next, state.counts("crew")], [2, (0, 1)])

    def test_none_for_what_was_made_so(self):
        """A message that is itself one for the dead makes none; one with the same maker else does."""
        rows = [("topic", "a", False), ("topic", "b", False), ("topic", "c", False), ("group", "g", "a", "b"),
                ("group", "h", "b", "c"),
                send(1, ("a", "k", "x", 0, 0, 1), producer="g"), ("now", 1),
                *[("failed", "h", 2, tries) for tries in range(5)]]
        state = fold(rows)
        self.assertEqual(state.next, 3)
        self.check(state, counts={"g": (0, 1), "h": (0, 1)}, kept={"a": [], "b": [], "c": []})
        state = fold([*rows[:5], send(1, ("b", "k", "x")), *[("failed", "h", 1, tries) for tries in range(5)]])
        self.assertEqual(state.message(2), (2, "c", "k", "x", 0, 0, 0, ("h", 1, "dead")))

    def test_behind_what_does_not_count(self):
        """[56]: what a picture holds is settled behind the first command, whether it counts or not."""
        for command, counted in [(("now", 0), False), (("topic", "jobs", True), False), (done("gang", 1), False),
                                 (done("crew", 2), False),
                                 (("topic", "more", True), True), (("now", 8), True)]:
            state = state_of((7, 4, (("jobs", False), ("news", True)),
                              (("crew", "jobs", "news", 3, 4, ((1, 2), (3, 0))),),
                              ((1, "jobs", "k", "a", 1, 0, 7, ("ann", 1)), (2, "jobs", "m", "b", 0, 0, 0, ("ann", 1)),
                               (3, "jobs", "m", "c", 0, 0, 8, ("ann", 1))), ()))
            with self.subTest(command=command):
                self.check(state, waiting={"crew": [1, 3]}, kept={"jobs": [1, 2, 3]})
                self.apply(state, (command, counted))
                if command != ("now", 8):
                    self.check(state, waiting={"crew": [3]}, kept={"jobs": [3], "news": [4]}, counts={"crew": (3, 5)})
                    self.assertEqual(state.message(4), (4, "news", "k", "a", 0, 7, 0, ("crew", 1, "dead")))
                else:
                    self.check(state, waiting={"crew": []}, kept={"jobs": [], "news": [4, 5]}, counts={"crew": (3, 6)})

    def test_done_ahead_of_overdue(self):
        """What is overdue in a picture may still be done by the first command."""
        state = state_of((7, 2, (("jobs", False),), (("crew", "jobs", None, 0, 0, ((1, 4),)),),
                          ((1, "jobs", "k", "a", 1, 0, 7, ("ann", 1)),), ()))
        other = state.copy()
        self.apply(state, (done("crew", 1), True))
        self.check(state, counts={"crew": (1, 0)})
        self.apply(other, (("failed", "crew", 1, 3), False))
        self.check(other, counts={"crew": (0, 1)})

    def test_late_group_gets_what_is_overdue(self):
        state = fold([JOBS, LAST, send(1, ("jobs", "k", "a", 0, 0, 2), ("jobs", "k", "b")), ("now", 2)])
        self.check(state, kept={"jobs": [1, 2]})
        self.apply(state, (("group", "crew", "jobs", "news"), True))
        self.check(state, waiting={"crew": [2]}, counts={"crew": (0, 1)}, kept={"jobs": [2], "news": [3]})


class Kept(Applied):
    """[58]: what goes, and what is kept."""

    def test_topic_that_nobody_reads(self):
        state = fold([JOBS, LAST, ("group", "club", "news", None), send(1, ("jobs", "k", "a"), ("jobs", "k", "b")),
                      ("now", 99)])
        self.check(state, kept={"jobs": [1, 2]})

    def test_goes_when_all_are_through(self):
        state = fold([JOBS, CREW, ("group", "gang", "jobs", None), send(1, ("jobs", "k", "a"), ("jobs", "k", "b"))])
        self.apply(state, (done("crew", 1), True))
        self.check(state, kept={"jobs": [1, 2]})
        self.apply(state, (done("gang", 1), True))
        self.check(state, kept={"jobs": [2]})
        self.assertIsNone(state.message(1))

    def test_last_ones(self):
        state = fold([LAST, ("group", "club", "news", None), send(1, ("news", "k", "a"), ("news", "m", "b"),
                                                                  ("news", "k", "c"))])
        self.apply(state, (done("club", 1), True))
        self.check(state, kept={"news": [2, 3]})
        self.apply(state, (done("club", 2), True), (done("club", 3), True))
        self.check(state, kept={"news": [2, 3]}, waiting={"club": []})
        self.apply(state, (send(2, ("news", "k", "d")), True))
        self.check(state, kept={"news": [2, 4]}, waiting={"club": [4]})
        self.apply(state, (("group", "late", "news", None), True))
        self.check(state, waiting={"late": [2, 4]})

    def test_last_one_that_waits(self):
        """The greatest id counts, waiting or not: an elder one that nobody waits for goes beneath one that waits."""
        state = fold([LAST, JOBS, ("group", "club", "news", None), CREW,
                      send(1, ("news", "k", "a"), ("jobs", "k", "b")), done("club", 1)])
        self.check(state, kept={"news": [1], "jobs": [2]})
        self.apply(state, (send(2, ("jobs", "k", "c"), ("news", "m", "d")), True))
        self.check(state, kept={"news": [1, 4]})
        self.apply(state, (send(3, ("news", "k", "e")), True))
        self.check(state, kept={"news": [4, 5]}, waiting={"club": [4, 5]})
        self.apply(state, (done("club", 5), True))
        self.check(state, kept={"news": [4, 5]}, waiting={"club": [4]})

    def test_last_one_made_for_a_group(self):
        state = fold([LAST, send(1, ("news", "k", "a"), ("news", "k", "b"))])
        self.check(state, kept={"news": [1, 2]})
        self.apply(state, (("group", "club", "news", None), True))
        self.check(state, kept={"news": [1, 2]}, waiting={"club": [1, 2]})
        self.apply(state, (done("club", 1), True))
        self.check(state, kept={"news": [2]})

    def test_what_a_picture_holds_for_nobody(self):
        rows = ((1, "news", "k", "a", 0, 0, 0, ("ann", 1)), (2, "news", "k", "b", 0, 0, 0, ("ann", 1)),
                (3, "jobs", "k", "b", 0, 0, 0, ("ann", 1)), (5, "more", "k", "b", 0, 0, 0, ("ann", 1)))
        state = state_of((0, 7, (("jobs", False), ("more", False), ("news", True)), (("club", "news", None, 0, 0, ()),
                          ("crew", "jobs", None, 0, 0, ())), rows, ()))
        self.apply(state, (("now", 0), False))
        self.check(state, kept={"news": [2], "jobs": [], "more": [5]})


class Told(Applied):
    """[59]: what a state tells, copies, equality, and fold."""

    def setUp(self):
        items = [("jobs", "k", "a"), ("news", "m", "b", 1, 2, 3), ("jobs", "k", "c")]
        self.rows = [JOBS, LAST, CREW, ("group", "club", "news", "jobs"), ("now", 4), send(1, *items),
                     ("failed", "crew", 1, 0)]
        self.state = fold(self.rows)

    def test_ordinary(self):
        state = self.state
        self.assertEqual([state.topics(), state.groups(), state.producers()], [
            [("jobs", False), ("news", True)], [("club", "news", "jobs"), ("crew", "jobs", None)], [("ann", 1)]])
        self.assertEqual([state.kept(topic="jobs"), state.message(number=2), state.waiting(group="crew")],
                         [[1, 3], (2, "news", "m", "b", 1, 6, 7, ("ann", 1)), [1, 3]])
        self.assertEqual([state.tries(group="crew", number=1), state.first(group="crew", key="k"),
                          state.counts(group="club")],
                         [1, 1, (0, 0)])
        self.assertEqual([type(state.now), type(state.next), type(state.topics()), type(state.counts("crew"))],
                         [int, int, list, tuple])

    def test_no_topic(self):
        before = told_by(self.state)
        for at, topic in enumerate([*NO_NAMES, "none", "crew", "ann", "k", "job", nest(1000), nest(100000),
                                    10 ** 5000]):
            with self.subTest(at=at):
                self.assert_tells(NoTopic, {"topic": topic}, self.state.kept, topic)
                self.assert_tells(NoTopic, {"topic": topic}, self.state.kept, topic=topic)
        self.assertEqual(told_by(self.state), before)

    def test_no_group(self):
        state = self.state
        before = told_by(state)
        for at, group in enumerate([*NO_NAMES, "none", "jobs", "ann", "k", "cre", nest(1000), nest(100000),
                                    10 ** 5000]):
            with self.subTest(at=at):
                for call, *places in [(state.waiting,), (state.counts,), (state.tries, 1), (state.tries, None),
                                      (state.first, "k"),
                                      (state.first, None), (state.tries, []), (state.first, [])]:
                    self.assert_tells(NoGroup, {"group": group}, call, group, *places)
                self.assert_tells(NoGroup, {"group": group}, state.first, key="k", group=group)
                self.assert_tells(NoGroup, {"group": group}, state.tries, number=1, group=group)
        self.assertEqual(told_by(state), before)

    def test_none_for_all_other_values(self):
        for at, value in enumerate([*NO_INTEGERS, 0, -1, 4, 99, "1", "k", (1,), nest(1000), nest(100000), 10 ** 5000]):
            with self.subTest(at=at):
                self.assertIsNone(self.state.message(value))
                self.assertIsNone(self.state.tries("crew", value))
        self.assertIsNone(self.state.tries("crew", 2))
        self.assertIsNone(self.state.tries("club", 1))
        for at, value in enumerate([*NO_NAMES, "none", "m", "crew", "jobs", 1, nest(1000), nest(100000), 10 ** 5000]):
            with self.subTest(at=at):
                self.assertIsNone(self.state.first("crew", value))

    def test_what_is_returned(self):
        """[3]: it is the asker's own."""
        before = told_by(self.state)
        for told in (self.state.topics(), self.state.groups(), self.state.producers(), self.state.kept("jobs"),
                     self.state.waiting("crew")):
            told.append("more")
            told.reverse()
        self.assertEqual(told_by(self.state), before)

    def test_copy(self):
        state = self.state
        other = state.copy()
        self.assertIs(type(other), State)
        self.assertEqual(told_by(other), told_by(state))
        self.assertEqual(other, state)
        steps = [("topic", "more", True), ("group", "gang", "jobs", None), send(2, ("jobs", "k", "d")), done("crew", 1),
                 ("failed", "crew", 3, 0), ("now", 9), done("crew", 3), done("gang", 1),
                 send(1, ("jobs", "x", ""), producer="bob")]
        for one, two in ((state, other), (other, state)):
            before = told_by(two)
            for command in steps:
                self.assertIs(one.apply(command), True)
                self.assertEqual(told_by(two), before)
        self.assertEqual(other, state)

    def test_equal(self):
        """Behind other commands, too, if all that is told is the same."""
        one = fold([JOBS, LAST, CREW, ("group", "club", "news", None), send(1, ("jobs", "k", "a"))])
        other = fold([LAST, JOBS, JOBS, ("group", "club", "news", None), CREW, CREW, ("now", 0),
                      send(1, ("jobs", "k", "a"))])
        for _ in range(2):
            self.assertIs(one == other, True)
            self.assertIs(one != other, False)
            one, other = other, one

    def test_unequal(self):
        rows = [JOBS, LAST, CREW, send(1, ("jobs", "k", "a"), ("jobs", "k", "b"), ("news", "k", "c"))]
        others = [
            rows[:3], [*rows, ("now", 1)], [*rows, ("topic", "more", True)], [("topic", "jobs", True), *rows[1:]],
            [*rows, ("group", "club", "jobs", None)], [*rows[:2], ("group", "gang", "jobs", None), rows[3]],
            [*rows[:2], ("group", "crew", "jobs", "news"), rows[3]], [*rows, send(2, ("none", "k", "a"))],
            [*rows[:3], send(1, ("jobs", "k", "a"), ("jobs", "k", "x"), ("news", "k", "c"))],
            [*rows, ("failed", "crew", 1, 0)],
            [*rows[:3], send(1, ("jobs", "k", "a"), ("jobs", "k", "b"), ("news", "k", "c"), producer="bob")],
            [*rows[:3], send(1, ("jobs", "k", "a"), ("jobs", "k", "b"), ("news", "k", "c", 1))],
            [*rows, done("crew", 1)],
            [*rows[:3], send(1, ("jobs", "k", "a"), ("jobs", "m", "b"), ("news", "k", "c"))], rows[:2], [],
        ]
        states = [fold(other) for other in [rows, *others]]
        for at, one in enumerate(states):
            for place, other in enumerate(states):
                with self.subTest(at=at, place=place):
                    self.assertIs(one == other, at == place)
                    self.assertIs(one != other, at != place)

    def test_each_part_of_a_picture_counts(self):
        """Two states that differ in just one thing are unequal."""
        base = (3, 5, (("jobs", False), ("news", True)), (("crew", "jobs", None, 1, 2, ((1, 0),)),),
                ((1, "jobs", "k", "a", 0, 0, 9, ("ann", 1)), (2, "news", "k", "a", 0, 0, 9, ("ann", 1))), (("ann", 4),))
        others = [
            (4, *base[1:]), (3, 6, *base[2:]), (*base[:2], (("jobs", True), ("news", True)), *base[3:]),
            (*base[:5], (("ann", 5),)),
            (*base[:5], ()), (*base[:5], (("bob", 4),)), (*base[:4], base[4][:1], base[5]),
            *[(*base[:3], (("crew", *row),), *base[4:]) for row in [
                ("jobs", "news", 1, 2, ((1, 0),)), ("jobs", None, 2, 2, ((1, 0),)), ("jobs", None, 1, 3, ((1, 0),)),
                ("jobs", None, 1, 2, ((1, 1),)), ("jobs", None, 1, 2, ())]],
            (*base[:3], (("gang", *base[3][0][1:]),), *base[4:]),
        ]
        for other in others:
            with self.subTest(other=other):
                self.assertIs(state_of(base) == state_of(other), False)
                self.assertIs(state_of(other) == state_of(other), True)

    def test_unequal_to_all_else(self):
        for other in [*STRANGE, 0, "", (), State, told_by(State()), picture(State())]:
            self.assertIs(State() == other, False)
            self.assertIs(State() != other, True)

    def test_fold(self):
        for rows in (self.rows, tuple(self.rows)):
            before = copy.deepcopy(rows)
            self.assertEqual(fold(rows), self.state)
            self.assertEqual(fold(commands=rows), self.state)
            self.assertEqual(rows, before)
        state = fold(self.rows)
        state.apply(("now", 50))
        self.assertEqual(fold(self.rows), self.state)
        state = State()
        for command in self.rows:
            state.apply(command)
        self.assertEqual(state, self.state)

    def test_fold_invalid(self):
        for at, commands in enumerate(NO_LISTS):
            with self.subTest(at=at):
                self.assert_given(InvalidCommands, commands, fold, commands)
                self.assert_given(InvalidCommands, commands, fold, commands=commands)
        for at, command in enumerate(NO_COMMANDS):
            with self.subTest(at=at):
                for commands in ([command], (command,), [JOBS, command], [command, JOBS], (JOBS, CREW, command, JOBS)):
                    self.assert_given(InvalidCommands, commands, fold, commands)


class Runs(Case):
    """[51] to [60]: runs of many commands, held against a plain account."""

    def test_runs(self):
        made = []
        for seed in range(80):
            source = random.Random(seed)
            state, plain = State(), Plain()
            commands = []
            for at in range(90):
                command = any_command(source, state) if at > 3 else source.choice(FIRST[at])
                commands.append(command)
                self.assertIs(state.apply(command), plain.apply(command))
                self.assertEqual(told_by(state), plain.told())
                self.check_promises(state, plain, commands)
            self.assertEqual(fold(commands), state)
            made.append(plain.fates)
        fates = [fate[0] for run in made for fate in run.values()]
        for word in ("waits", "done", "dead"):
            self.assertGreater(fates.count(word), 300)

    def check_promises(self, state, plain, commands):
        """[60]."""
        for group, topic, _ in state.groups():
            for number in state.waiting(group):
                self.assertIn(number, state.kept(topic))
                self.assertIn(state.tries(group, number), range(5))
                message = state.message(number)
                if state.first(group, message[2]) == number:
                    self.assertTrue(message[6] == 0 or message[6] > state.now)
        made = len([command for command in commands if command[0] == "group"])
        self.assertLessEqual(state.next - 1, 4 * len(commands) * (1 + made))

    def test_settled_in_order(self):
        """[60]: those of a key become done or dead in ascending order, all beneath those that wait."""
        for seed in range(30):
            source = random.Random(1000 + seed)
            state, plain, settled = State(), Plain(), {}
            for _ in range(60):
                command = any_command(source, state)
                before = {place: fate[0] for place, fate in plain.fates.items()}
                state.apply(command)
                plain.apply(command)
                now = [place for place in sorted(plain.fates)
                       if plain.fates[place][0] != "waits" == before.get(place, "waits")]
                for group, number in now:
                    settled.setdefault((group, plain.made[number - 1][2]), []).append(number)
            for (group, key), numbers in settled.items():
                self.assertEqual(numbers, sorted(set(numbers)))
                first = state.first(group, key)
                self.assertTrue(first is None or numbers[-1] < first)


if __name__ == "__main__":
    unittest.main()
