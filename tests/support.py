"""What several tests use."""

import unittest

# One of each kind that is neither a text nor an integer nor a tuple: none of these is anything here.
STRANGE = [None, True, False, 1.0, 0.0, b"a", [], ["a"], {}, {"a": 1}, set(), object(), len, int, ...]
# Values of every other kind in the place of a name, of an integer, and of a list.
NO_NAMES = [*STRANGE, "", "abcdefghi", "Jobs", "a1", "a b", "a\n", "a-b", "\xe9", 0, 1, -1, (), ("a",), ("a", 1)]
NO_INTEGERS = [*STRANGE, "", "1", "a", (), (1,), [1], b"1", 2.0]
NO_COUNTS = [*NO_INTEGERS, -1, -(10 ** 20)]
NO_LISTS = [None, True, False, 0, 1, 1.0, "", "a", "ab", b"a", b"", {}, {1: 1}, set(), {1}, object(), len, int,
            range(2), ...]


def nest(deep):
    """A tuple that is nested so deep."""
    value = ()
    for _ in range(deep - 1):
        value = (value,)
    return value


class Case(unittest.TestCase):
    """A test case that also judges errors."""

    def assert_given(self, kind, given, call, *places, **names):
        """The call raises just this kind, and the error has the very object that was handed in."""
        self.assert_tells(kind, {"given": given}, call, *places, **names)

    def assert_tells(self, kind, told, call, *places, **names):
        """The call raises just this kind, and the error has just these attributes, the very objects."""
        with self.assertRaises(kind) as caught:
            call(*places, **names)
        self.assertIs(type(caught.exception), kind)
        self.assertEqual(list(vars(caught.exception)), list(told))
        for name, value in told.items():
            self.assertIs(getattr(caught.exception, name), value)


def any_command(source, state):
    """A command made at random, of few names, that counts often enough where the state is this one."""
    topics, groups, producers, keys = ("a", "b", "c"), ("g", "h", "i"), ("p", "q"), ("k", "m")
    word = source.choice(["topic", "group", "send", "send", "done", "done", "failed", "failed", "failed", "now"])
    if word == "topic":
        return word, source.choice(topics), source.choice([True, False])
    if word == "group":
        topic = source.choice(topics)
        return word, source.choice(groups), topic, source.choice([name for name in (*topics, None) if name != topic])
    if word == "now":
        return word, max(0, state.now + source.choice([-1, 0, 1, 2, 5]))
    items = tuple([(source.choice(topics), source.choice(keys), source.choice(["", "one", '"\\']),
                    source.choice([0, 1, 2, 3]), source.choice([0, 0, 1, 3]), source.choice([0, 0, 1, 2, 4]))
                   for _ in range(source.randrange(1, 5))])
    if word == "send":
        producer = source.choice(producers)
        number = dict(state.producers()).get(producer, 0) + source.choice([0, 1, 1, 1, 2])
        return word, producer, max(1, number), items
    return any_settling(source, state, word, items, groups, keys)


def any_settling(source, state, word, items, groups, keys):
    """A "done" or "failed" command made at random."""
    group = source.choice(groups)
    number = source.randrange(1, state.next + 2)
    tries = source.randrange(5)
    held = [name for name, _, _ in state.groups() if state.waiting(name)]
    if held and source.random() < 0.85:
        group = source.choice(held)
        firsts = [state.first(group, key) for key in keys if state.first(group, key) is not None]
        number = source.choice(firsts + [number]) if source.random() < 0.3 else source.choice(firsts)
        tries = state.tries(group, number) if source.random() < 0.9 else tries
    if word == "failed":
        return word, group, number, tries or 0
    return word, group, number, (source.randrange(1, 4), 1), items[:source.choice([0, 0, 1, 4])]
