"""What several tests use."""

import unittest

from inorderonce.disks import Disk
from inorderonce.lines import line
from inorderonce.logs import Log

# One of each kind that is neither a text nor an integer nor a tuple: none of these is anything here.
STRANGE = [None, True, False, 1.0, 0.0, b"a", [], ["a"], {}, {"a": 1}, set(), object(), len, int, ...]
# Values of every other kind in the place of a name, of an integer, and of a list.
NO_NAMES = [*STRANGE, "", "abcdefghi", "Jobs", "a1", "a b", "a\n", "a-b", "\xe9", 0, 1, -1, (), ("a",), ("a", 1)]
NO_INTEGERS = [*STRANGE, "", "1", "a", (), (1,), [1], b"1", 2.0]
NO_COUNTS = [*NO_INTEGERS, -1, -(10 ** 20)]
NO_LISTS = [None, True, False, 0, 1, 1.0, "", "a", "ab", b"a", b"", {}, {1: 1}, set(), {1}, object(), len, int,
            range(2), ...]


NO_DISKS = [*STRANGE, Disk, 0, 1, "", "disk", (), [Disk()], (Disk(),)]
NO_BROKERS = [*NO_INTEGERS, -3, -1, 0, 2, 4, 6, 7, 10 ** 20, (3,), [3], "3", 3.0, 1.0]



def lay(rows, term=0, voted=None, base=None):
    """A disk with a log of these rows, tuples (term, command), in this term; base is (index, term, picture)."""
    disk = Disk()
    log = Log(disk)
    if term:
        log.vote(term, voted)
    if base:
        log.swap(*base)
    for elder, command in rows:
        log.put(elder, command)
    return disk


def files_of(disk):
    """All that lies on a disk, and how many calls were done on it."""
    return [(name, disk.read(name), disk.synced(name)) for name in disk.names()], disk.ops()


def nest(deep):
    """A tuple that is nested so deep."""
    value = ()
    for _ in range(deep - 1):
        value = (value,)
    return value


ITEM = ("jobs", "k", "paint", 0, 0, 0)
# Values of which none is a letter of any kind.
FALSE_LETTERS = [
    *STRANGE, 0, 1, "", "ask", (), ("ask",), ("ask", 2, 1, 0), ["ask", 2, 1, 0, 0], ("ask", 0, 1, 0, 0),
    ("ask", 2, 5, 0, 0), ("ask", 2, -1, 0, 0), ("ask", 2, True, 0, 0), ("ask", 2, 1, -1, 0), ("ask", 2, 1, 0, 0, 0),
    ("vote", 2, 1, 1), ("vote", 2, 1, None), ("vote", 2, 1), ("rows", 2, 1, 0, 0, [], 0),
    ("rows", 2, 1, 0, 0, ((1, ("now", -1)),), 0), ("rows", 2, 1, 0, 0, ((0, ("now", 0)),), 0),
    ("rows", 2, 1, 0, 0, ((1, ("now", 0)),) * 6, 0), ("rows", 2, 1, 0, 0, ()), ("got", 2, 1, 1, 0),
    ("got", 2, 1, True, -1), ("got", 2, 1, True, 0, 0), ("whole", 2, 1, 1, 1, "(0  1)"), ("whole", 2, 1, 1, 1, ("p",)),
    ("whole", 2, 1, 1, 1, line(nest(6))), ("whole", 2, 1, 1, 1), ("later", 2, 1), ("now", 0), ("topic", "jobs", True),
    ("send", "ann", 0, (ITEM,)), ("send", "ann", 1, ()), ("send", "ann", 1, (ITEM,) * 5), ("send", "ann", 1, [ITEM]),
    ("send", "Ann", 1, (ITEM,)), ("send", "ann", 10 ** 12, (ITEM,)), ("want", "bob", 1), ("want", "bob", True, "crew"),
    ("want", "bob", 1, "Crew"), ("done", "bob", 1, "crew", 1, (1, 1)), ("done", "bob", 1, "crew", 1, (1, 0), ()),
    ("done", "bob", 1, "crew", 1, (1, 1), (ITEM,) * 5), ("nay", "bob", 1, "crew", 0, (1, 1)),
    ("nay", "bob", 1, "crew", 1, [1, 1]), ("make", "ops", 1, ("now", 1)), ("make", "ops", 0, ("topic", "jobs", True)),
    ("make", "ops", 1, ("topic", "jobs", 1)), ("make", "ops", 1, ("group", "crew", "jobs", "jobs")), ("ok", "ann", 0),
    ("ok", 1, 1), ("give", "bob", 1, "crew", 1, (1, 1), "jobs", "k"), ("none", "bob"), ("made", "ops", -1),
    ("yes", "bob", 1, "crew", 1), ("stale", "bob", 1, "crew", 1, (1, 1), ()), ("elsewhere", "bob", 1, 5),
    ("elsewhere", "bob", 1, -2), ("elsewhere", "bob", 1, None), nest(100000), (10 ** 5000,),
]


class Case(unittest.TestCase):
    """A test case that also judges errors."""

    def assert_given(self, kind, given, call, *places, **names):
        """The call raises just this kind, and the error has the very object that was handed in."""
        self.assert_tells(kind, {"given": given}, call, *places, **names)

    def assert_tells(self, kind, told, call, *places, **names):
        """The call raises just this kind, and the error has just these attributes, the very objects."""
        with self.assertRaises(kind) as caught:
            call(*places, **names)
        self.assertIs(type(caught.exception), kind)
        self.assertEqual(list(vars(caught.exception)), list(told))
        for name, value in told.items():
            self.assertIs(getattr(caught.exception, name), value)


def any_command(source, state):
    """A command made at random, of few names, that counts often enough where the state is this one."""
    topics, groups, producers, keys = ("a", "b", "c"), ("g", "h", "i"), ("p", "q"), ("k", "m")
    word = source.choice(["topic", "group", "send", "send", "done", "done", "failed", "failed", "failed", "now"])
    if word == "topic":
        return word, source.choice(topics), source.choice([True, False])
    if word == "group":
        topic = source.choice(topics)
        return word, source.choice(groups), topic, source.choice([name for name in (*topics, None) if name != topic])
    if word == "now":
        return word, max(0, state.now + source.choice([-1, 0, 1, 2, 5]))
    items = tuple([(source.choice(topics), source.choice(keys), source.choice(["", "one", '"\\']),
                    source.choice([0, 1, 2, 3]), source.choice([0, 0, 1, 3]), source.choice([0, 0, 1, 2, 4]))
                   for _ in range(source.randrange(1, 5))])
    if word == "send":
        producer = source.choice(producers)
        number = dict(state.producers()).get(producer, 0) + source.choice([0, 1, 1, 1, 2])
        return word, producer, max(1, number), items
    return any_settling(source, state, word, items, groups, keys)


def any_settling(source, state, word, items, groups, keys):
    """A "done" or "failed" command made at random."""
    group = source.choice(groups)
    number = source.randrange(1, state.next + 2)
    tries = source.randrange(5)
    held = [name for name, _, _ in state.groups() if state.waiting(name)]
    if held and source.random() < 0.85:
        group = source.choice(held)
        firsts = [state.first(group, key) for key in keys if state.first(group, key) is not None]
        number = source.choice(firsts + [number]) if source.random() < 0.3 else source.choice(firsts)
        tries = state.tries(group, number) if source.random() < 0.9 else tries
    if word == "failed":
        return word, group, number, tries or 0
    return word, group, number, (source.randrange(1, 4), 1), items[:source.choice([0, 0, 1, 4])]


def any_item(source):
    """An item made at random, of few names."""
    body = source.choice(["", "one", "xo", '"\\', "a body that is cut in two again"])
    return (source.choice(["a", "b", "c"]), source.choice(["k", "m"]), body, source.choice([0, 0, 1, 3]),
            source.choice([0, 0, 0, 2, 5]), source.choice([0, 0, 0, 3, 9]))


def any_world(source):
    """A world made at random: its brokers, producers and members."""
    members = [("bob", "g", None), ("eve", "g", "b"), ("joe", "h", "c")]
    return source.choice([1, 3, 3, 5]), ["ann", "cy"][:source.randrange(1, 3)], members[:source.randrange(4)]


def any_act(source, world, falls=0.05):
    """An act of a world made at random: ticks and letters that come make up the most of it."""
    names = world.producers() + [name for name, _, _ in world.members()]
    who = source.choice([*range(world.brokers()), *names])
    keeps = [source.randrange(60) for _ in range(source.randrange(3))]
    chance = source.random()
    if chance < 0.18:
        return "tick", who
    if chance < 0.78:
        return "carry", 0 if source.random() < 0.8 else source.randrange(10 ** 6)
    if chance < 0.82:
        return source.choice(["lose", "double"]), source.randrange(10 ** 6)
    if chance < 0.87 and world.producers():
        items = tuple([any_item(source) for _ in range(source.choice([1, 1, 2, 4]))])
        return "send", source.choice(world.producers()), items
    if chance < 0.90:
        command = source.choice([("topic", source.choice("abc"), source.choice([True, False])),
                                 ("group", source.choice("gh"), source.choice("ab"), source.choice([None, "c"]))])
        return "make", source.choice(["ops", "zed"]), len(world.log()) + 1, command
    if chance < 0.90 + falls / 2:
        return "fall", who, keeps
    if chance < 0.90 + falls:
        return "cut", who, source.choice([None, *range(12)]), keeps
    return "rise", who


def warm_acts(world):
    """Acts by which broker 0 comes to lead, and some topics and groups come to be, if each letter comes."""
    for _ in range(7):
        yield "tick", 0
        yield None
    for ask, command in enumerate([("topic", "a", False), ("topic", "b", True), ("topic", "c", False),
                                   ("group", "g", "a", "c"), ("group", "h", "b", None)], 1):
        yield "make", "ops", ask, command
        yield None
