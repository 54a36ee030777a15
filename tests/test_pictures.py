"""Points [3] to [7] and [81] to [85]: states as pictures."""

import random
import unittest

from inorderonce.errors import InvalidCount, InvalidLine, InvalidPicture, InvalidState
from inorderonce.lines import is_value, line
from inorderonce.meaning import State, fold
from inorderonce.pictures import picture, read_state, room, state_of, text_of
from tests.support import NO_COUNTS, NO_INTEGERS, NO_NAMES, STRANGE, Case, any_command, nest

EMPTY = (0, 1, (), (), (), ())
ITEMS = (("jobs", "k", "one", 0, 2, 0), ("news", "m", 'say "x"', 3, 0, 9), ("jobs", "k", "two", 1, 0, 0))
ROWS = [("topic", "jobs", False), ("topic", "news", True), ("topic", "dead", False), ("group", "crew", "jobs", "dead"),
        ("group", "club", "news", None), ("group", "gang", "jobs", None), ("now", 4), ("send", "bob", 1, ITEMS),
        ("send", "ann", 1, ITEMS[:1]),
        ("failed", "crew", 1, 0), ("failed", "crew", 1, 1), ("done", "club", 2, (1, 1), ()),
        ("done", "gang", 1, (1, 1), ITEMS[1:2])]
PICTURE = (
    4, 6, (("dead", False), ("jobs", False), ("news", True)),
    (("club", "news", None, 1, 0, ((5, 0),)), ("crew", "jobs", "dead", 0, 0, ((1, 2), (3, 0), (4, 0))),
     ("gang", "jobs", None, 1, 0, ((3, 0), (4, 0)))),
    ((1, "jobs", "k", "one", 0, 6, 0, ("bob", 1)), (3, "jobs", "k", "two", 1, 4, 0, ("bob", 1)),
     (4, "jobs", "k", "one", 0, 6, 0, ("ann", 1)), (5, "news", "m", 'say "x"', 3, 4, 13, ("gang", 1))),
    (("ann", 1), ("bob", 1)),
)
TIME = 10 ** 12 - 1
BIG = 10 ** 14 - 1
NO_TIMES = [*NO_INTEGERS, -1, 10 ** 12, 10 ** 15]
NO_NUMBERS = [*NO_INTEGERS, 0, -1]
NO_TUPLES = [*STRANGE, "", "a", 0, 1, [1], (1,), (None,), ((),), ("a",), nest(3), nest(1000), nest(100000)]
ODD = [nest(1000), nest(100000), 10 ** 5000]
NO_TEXTS = [*STRANGE, 0, 1, "a" * 41, "\n", "\x7f", "\xe9", (), ("a",), *ODD]


def exchanged(value, worth, *path):
    """The value with another worth at a path of places."""
    if not path:
        return worth
    at, *rest = path
    return value[:at] + (exchanged(value[at], worth, *rest),) + value[at + 1:]


def wrong_parts():
    """What is no picture, each made of PICTURE by one exchange: (path, worths)."""
    message, group = (4, 1), (3, 1)
    yield (), [*NO_TUPLES, PICTURE[:5], PICTURE + (0,), list(PICTURE), (PICTURE,), (), "(0 1 () () () ())", State(),
               fold(ROWS)]
    yield (0,), [*NO_TIMES, *ODD]
    yield (1,), [*NO_NUMBERS, 5, 4, 1, *[value for value in ODD if value != 10 ** 5000]]
    for at in (2, 3, 4, 5):
        yield (at,), [*NO_TUPLES, list(PICTURE[at]), PICTURE[at] + PICTURE[at][-1:],
                      PICTURE[at][:1] * 2 + PICTURE[at][1:],
                      PICTURE[at][::-1], PICTURE[at] + ((),), {1: 1}]
        for row in range(len(PICTURE[at])):
            held = PICTURE[at][row]
            yield (at, row), [*NO_TUPLES, list(held), held[:-1], held + (0,), held + (None,), (held,), held[::-1]]
    yield (2, 1, 0), [*NO_NAMES, "dead", "news", "z", "a", *ODD]
    yield (2, 1, 1), [None, 0, 1, "", "+", (), (True,), 1.0, [], *ODD]
    yield (*group, 0), [*NO_NAMES, "club", "gang", "z", "a", *ODD]
    yield (*group, 1), [*NO_NAMES, "dead", "news", "none", "crew", *ODD]
    yield (*group, 2), [*[value for value in NO_NAMES if value is not None], "jobs", "none", "crew", *ODD]
    for at in (3, 4):
        yield (*group, at), [*NO_INTEGERS, -1, *[value for value in ODD if value != 10 ** 5000]]
    waiting = PICTURE[3][1][5]
    yield (*group, 5), [*NO_TUPLES, list(waiting), waiting[::-1], waiting + waiting[-1:], (waiting[0], waiting[0]),
                        ((5, 0),), ((2, 0),),
                        ((1, 0), (5, 0)), ((0, 0),), ((6, 0),), ((1, 0), (2, 0), (3, 0)), ([1, 0],), ((1,),),
                        ((1, 0, 0),), (1, 2)]
    yield (*group, 5, 0, 0), [*NO_NUMBERS, 2, 3, 5, *ODD]
    yield (*group, 5, 0, 1), [*NO_INTEGERS, -1, 5, *ODD]
    yield (*message, 0), [*NO_NUMBERS, 1, 2, 4, 5, 6, 99, *ODD]
    yield (*message, 1), [*NO_NAMES, "dead", "news", "none", "crew", *ODD]
    yield (*message, 2), [*NO_NAMES, *ODD]
    yield (*message, 3), NO_TEXTS
    yield (*message, 4), [*NO_INTEGERS, -1, 4, *ODD]
    for at in (5, 6):
        yield (*message, at), [*NO_INTEGERS, -1, *[value for value in ODD if value != 10 ** 5000]]
    yield (*message, 7), [*NO_TUPLES, ["bob", 1], ("bob",), ("bob", 0), ("bob", -1), ("bob", True), ("Bob", 1),
                          (1, "bob"), ("bob", 1, 1), ("bob", 1, "done"),
                          ("bob", 1, None), ("bob", 1, "dead", 1), ("bob", 1, ["dead"]), ("bob", 1, "Dead"),
                          ("bob", 0, "dead"), ("", 1, "dead"),
                          ("bob", 1, ""), ("bob", 1, nest(100000)), ("bob", "dead"), ("bob", 1.0), (None, 1),
                          ("bob", None, "dead")]
    yield (5, 0, 0), [*NO_NAMES, "bob", "z", *ODD]
    yield (5, 0, 1), [*NO_NUMBERS, *[value for value in ODD if value != 10 ** 5000]]
    for idle in [(2, "none", "k", "", 0, 0, 0, ("ann", 1)), (2, "crew", "k", "", 0, 0, 0, ("ann", 1))]:
        yield (4,), [PICTURE[4][:1] + (idle,) + PICTURE[4][1:]]
    yield (*group,), [("crew", topic, "dead", 0, 0, ()) for topic in ("none", "crew", "dead")]
    yield (4, 3), [(5, "none", "m", "", 0, 0, 0, ("ann", 1)), (6, "news", "m", "", 0, 0, 0, ("ann", 1))]


def good_parts():
    """Pictures, each made of PICTURE by one exchange: (path, worths)."""
    yield (), [EMPTY, (TIME, BIG, (), (), (), ()), (0, 1, (("a", True),), (), (), (("a", BIG),))]
    yield (0,), [0, 1, TIME]
    yield (1,), [6, 7, 10 ** 12, BIG]
    yield (2, 1, 1), [True]
    yield (2,), [PICTURE[2] + (("z", True),), (("a", True),) + PICTURE[2]]
    yield (3,), [(), PICTURE[3][:1], PICTURE[3][1:]]
    yield (3, 1, 0), ["crewa", "d", "ga", "club" + "a"]
    yield (3, 1, 2), [None, "news", "dead"]
    yield (3, 1, 3), [0, 7, BIG]
    yield (3, 1, 4), [0, 7, BIG]
    yield (3, 1, 5), [(), ((1, 0),), ((3, 4),), ((1, 4), (3, 0)), ((3, 1), (4, 2))]
    for tries in range(5):
        yield (3, 1, 5, 0, 1), [tries]
    yield (4, 0, 0), [1]
    yield (4, 3, 0), [5]
    yield (4, 1, 2), ["a", "abcdefgh"]
    yield (4, 1, 3), ["", "x" * 40, "~", '"' * 40]
    yield (4, 1, 4), [0, 1, 2, 3]
    yield (4, 1, 5), [0, 99, BIG]
    yield (4, 1, 6), [0, 99, BIG]
    yield (4, 1, 7), [("bob", 1, "dead"), ("zed", BIG), ("abcdefgh", BIG, "dead"), ("crew", 7)]
    yield (4,), [PICTURE[4][:1] + ((2, topic, "k", "", 0, 0, 0, ("ann", 1)),) + PICTURE[4][1:]
                 for topic in ("dead", "jobs", "news")]
    yield (5, 0, 1), [1, BIG]
    yield (5,), [(), PICTURE[5][1:]]


def any_state(source, many):
    """A state behind so many commands at random."""
    state = State()
    for _ in range(many):
        state.apply(any_command(source, state))
    return state


class Pictures(Case):
    """[81]: the picture of a state."""

    def test_ordinary(self):
        self.assertEqual(picture(State()), EMPTY)
        self.assertEqual(picture(fold(ROWS)), PICTURE)
        self.assertEqual(picture(state=fold(ROWS)), PICTURE)

    def test_dead_and_buried(self):
        state = fold([*ROWS, *[("failed", "crew", 1, tries) for tries in (2, 3, 4)]])
        self.assertEqual(picture(state)[3][1], ("crew", "jobs", "dead", 0, 1, ((3, 0), (4, 0))))
        self.assertEqual(picture(state)[4][-1], (6, "dead", "k", "one", 0, 4, 0, ("crew", 1, "dead")))

    def test_wrong_state(self):
        for at, value in enumerate([*STRANGE, 0, "", (), EMPTY, State, text_of(State()), nest(100000)]):
            with self.subTest(at=at):
                for call in (picture, text_of):
                    self.assert_given(InvalidState, value, call, value)
                    self.assert_given(InvalidState, value, call, state=value)

    def test_nothing_is_changed(self):
        state = fold(ROWS)
        picture(state), text_of(state)
        self.assertEqual(state, fold(ROWS))

    def test_equal_exactly_if_pictures_are(self):
        source = random.Random(81)
        states = [any_state(source, many) for many in [0, 1, 2, 3, 4, 5] * 12]
        states = states + [state.copy() for state in states[::7]]
        for one in states:
            for other in states:
                self.assertIs(one == other, picture(one) == picture(other))


class StatesOf(Case):
    """[82], [83]: states made of pictures."""

    def test_ordinary(self):
        state = state_of(PICTURE)
        self.assertIs(type(state), State)
        self.assertEqual(state, fold(ROWS))
        self.assertEqual(state_of(value=PICTURE), fold(ROWS))
        self.assertEqual([state.now, state.next, state.topics(), state.producers()],
                         [4, 6, list(PICTURE[2]), list(PICTURE[5])])
        self.assertEqual([state.groups(), state.counts("gang"), state.waiting("crew"), state.tries("crew", 1)],
                         [[row[:3] for row in PICTURE[3]], (1, 0), [1, 3, 4], 2])
        self.assertEqual([state.kept("jobs"), state.kept("dead"), state.message(5), state.first("crew", "k")],
                         [[1, 3, 4], [], PICTURE[4][3], 1])

    def test_good_parts(self):
        for path, worths in good_parts():
            for worth in worths:
                value = exchanged(PICTURE, worth, *path)
                with self.subTest(path=path, worth=worth):
                    self.assertEqual(picture(state_of(value)), value)
                    self.assertEqual(picture(read_state(line(value))), value)

    def test_wrong_parts(self):
        for path, worths in wrong_parts():
            for at, worth in enumerate(worths):
                value = exchanged(PICTURE, worth, *path)
                with self.subTest(path=path, at=at):
                    self.assert_given(InvalidPicture, value, state_of, value)
                    self.assert_given(InvalidPicture, value, state_of, value=value)
                    if is_value(value):
                        text = line(value)
                        self.assert_given(InvalidLine, text, read_state, text)

    def test_several_wrong_at_once(self):
        source = random.Random(82)
        wrongs = [(path, worth) for path, worths in wrong_parts() if len(path) > 1 for worth in worths]
        for _ in range(300):
            value = PICTURE
            for path, worth in sorted(source.sample(wrongs, 3), key=lambda wrong: -len(wrong[0])):
                try:
                    value = exchanged(value, worth, *path)
                except (TypeError, IndexError):
                    continue
            self.assert_given(InvalidPicture, value, state_of, value)

    def test_what_is_not_asked(self):
        """[83]: whether commands lead there: what waits for no one, what is overdue, what nobody made."""
        value = (9, 50, (("jobs", False), ("news", True)), (("crew", "jobs", None, 0, 0, ()),
                                                            ("news", "news", None, 0, 7, ((7, 4),))),
                 ((3, "jobs", "k", "", 0, 0, 1, ("zed", 99, "dead")), (7, "news", "k", "", 0, 99, 9, ("zed", 1)),
                  (8, "news", "k", "", 0, 99, 1, ("zed", 1))), ())
        state = state_of(value)
        self.assertEqual(picture(state), value)
        self.assertEqual([state.kept("jobs"), state.kept("news"), state.first("news", "k")], [[3], [7, 8], 7])
        self.assertIs(state.apply(("now", 0)), False)
        self.assertEqual([state.kept("jobs"), state.kept("news"), state.counts("news")], [[], [8], (0, 8)])

    def test_there_and_back(self):
        for seed in range(60):
            state = any_state(random.Random(seed), 60)
            value = picture(state)
            self.assertIs(is_value(value), True)
            self.assertEqual(state_of(value), state)
            self.assertEqual(picture(state_of(value)), value)
            self.assertEqual(read_state(text_of(state)), state)

    def test_equal_states_stay_equal(self):
        """[83]: whatever commands are applied to both, also where something was overdue."""
        for seed in range(60):
            source = random.Random(seed)
            now, *rest = picture(any_state(source, 40))
            value = (now + source.choice([0, 0, 1, 3, 40]), *rest)
            one, other = state_of(value), read_state(line(value))
            if now == value[0]:
                other = any_state(random.Random(seed), 40)
            self.assertEqual(one, other)
            for _ in range(30):
                command = any_command(source, one)
                self.assertIs(one.apply(command), other.apply(command))
                self.assertEqual(one, other)
                self.assertEqual(picture(one), picture(other))

    def test_state_is_of_its_own(self):
        one, other = state_of(PICTURE), state_of(PICTURE)
        one.apply(("done", "crew", 1, (1, 1), ()))
        one.apply(("send", "zed", 1, ITEMS))
        self.assertEqual(picture(other), PICTURE)
        self.assertEqual(state_of(PICTURE), other)

    def test_great_integers(self):
        """14 digits in a picture, whatever commands follow: the picture stays a value."""
        message = (BIG - 2, "jobs", "k", "a", 0, BIG, 5, ("zed", BIG))
        state = state_of((4, BIG - 1, (("dead", False), ("jobs", False)),
                          (("crew", "jobs", "dead", BIG, BIG, ((BIG - 2, 4),)),), (message,), (("ann", BIG),)))
        for command in [("now", TIME), ("send", "bob", 1, (("jobs", "k", "", 0, 50, 50),) * 4), ("now", TIME)]:
            state.apply(command)
            self.assertIs(is_value(picture(state)), True)
            self.assertEqual(read_state(text_of(state)), state)
        self.assertEqual([state.counts("crew"), state.message(BIG - 1)[7]], [(BIG, BIG + 1), ("crew", BIG - 2, "dead")])


class Texts(Case):
    """[84]: states as texts."""

    def test_ordinary(self):
        self.assertEqual(text_of(State()), "(0 1 () () () ())")
        self.assertEqual(text_of(state=fold(ROWS)), line(PICTURE))
        self.assertEqual(read_state("(0 1 () () () ())"), State())
        self.assertEqual(read_state(text=line(PICTURE)), fold(ROWS))

    def test_no_texts(self):
        text = line(PICTURE).replace("say ", "say")
        self.assertEqual(text_of(read_state(text)), text)
        others = [
            *STRANGE, 0, 1, (), EMPTY, PICTURE, "", "()", "~", "0", "(0 1 () () ())", "(0 1 () () () () ())",
            "(0 1  () () () ())",
            "(0 1 () () () () )", " (0 1 () () () ())", "(0 1 () () () ()) ", "(00 1 () () () ())",
            "(0 0 () () () ())", "(-1 1 () () () ())",
            "(~ 1 () () () ())", "(+ 1 () () () ())", "(0 1 ~ () () ())", '(0 1 (("jobs" 0)) () () ())',
            '(0 1 (("jobs" !) ("jobs" !)) () () ())',
            '(0 1 (("b" !) ("a" !)) () () ())', "(1000000000000 1 () () () ())", "\n", "x", "(", text + ")", text[:-1],
            text.replace("dead", "Dead"),
            *[text[:at] + text[at + 1:] for at, sign in enumerate(text) if sign in '()" '], nest(1000), nest(100000),
            10 ** 5000,
            *[text[:at] + sign + text[at:] for at, sign in enumerate(text) if sign in '()" '], "(" * 80001, "9" * 80000,
        ]
        for at, value in enumerate(others):
            with self.subTest(at=at):
                self.assert_given(InvalidLine, value, read_state, value)
                self.assert_given(InvalidLine, value, read_state, text=value)


class Room(Case):
    """[85]: how long texts may be."""

    def test_ordinary(self):
        for counts in [(0, 0, 0, 0), (1, 1, 1, 1), (1, 0, 0, 0), (0, 1, 0, 0), (0, 0, 1, 0), (0, 0, 0, 1),
                       (2, 3, 5, 7), (8, 8, 100, 8), (0, 3, 5, 0)]:
            topics, groups, messages, producers = counts
            wanted = 64 + 16 * topics + 72 * groups + 22 * messages * groups + 200 * messages + 30 * producers
            self.assertEqual(room(*counts), wanted)
            self.assertEqual(room(producers=producers, messages=messages, groups=groups, topics=topics), wanted)
        self.assertEqual([room(1, 1, 1, 1), room(8, 8, 100, 8)], [404, 38608])

    def test_wrong_counts(self):
        for at, value in enumerate([*NO_COUNTS, nest(100000)]):
            with self.subTest(at=at):
                for place in range(4):
                    counts = [1, 1, 1, 1]
                    counts[place] = value
                    self.assert_given(InvalidCount, value, room, *counts)
                    self.assert_given(InvalidCount, value, room,
                                      **dict(zip(["topics", "groups", "messages", "producers"], counts)))
                    counts[place + 1:] = [-7] * (3 - place)
                    self.assert_given(InvalidCount, value, room, *counts)

    def test_greatest_state(self):
        """A state of the bounds of [8], each part as long as it can be."""
        topics = tuple([("topics" + letter * 2, False) for letter in "abcdefgh"])
        messages = tuple([(BIG - 200 + at, topics[at % 8][0], "keykeyab", '"\\' * 20, 3, BIG, BIG,
                           ("producer", BIG, "dead")) for at in range(100)])
        groups = tuple([("groups" + letter * 2, topics[at][0], topics[at - 1][0], BIG, BIG,
                         tuple([(message[0], 4) for message in messages if message[1] == topics[at][0]])) for at,
                         letter in enumerate("abcdefgh")])
        producers = tuple([("produc" + letter * 2, BIG) for letter in "abcdefgh"])
        value = (TIME, BIG, topics, groups, messages, producers)
        self.assertLessEqual(len(text_of(state_of(value))), room(8, 8, 100, 8))
        one = tuple([(message[0], topics[0][0], *message[2:]) for message in messages])
        groups = tuple([(group[0], topics[0][0], topics[1][0], BIG, BIG, tuple([(message[0], 4) for message in one]))
                        for group in groups])
        text = text_of(state_of((TIME, BIG, topics, groups, one, producers)))
        self.assertLessEqual(len(text), 38608)
        self.assertGreater(len(text), 30000)
        self.assertEqual(text_of(read_state(text)), text)

    def test_all_states(self):
        for seed in range(60):
            state = any_state(random.Random(seed), 60)
            kept = sum([len(state.kept(topic)) for topic, _ in state.topics()])
            self.assertLessEqual(len(text_of(state)), room(len(state.topics()), len(state.groups()), kept,
                                                           len(state.producers())))


if __name__ == "__main__":
    unittest.main()
