"""Points [2], [3], [6], [7] and [21] to [26]: items, tokens, commands and letters."""

import copy
import unittest

from inorderonce.errors import InvalidLetter
from inorderonce.letters import client_of, is_command, is_item, is_letter, is_token, side
from inorderonce.lines import is_value, line
from tests.support import STRANGE, Case, nest

GREATEST = 10 ** 12 - 1
ITEM = ("jobs", "k", "paint", 0, 0, 0)
NO_TEXTS = [*STRANGE, 0, 1, (), ("a",), ["a"], b"a", nest(1000), nest(100000), 10 ** 5000]
NO_INTEGERS = [*STRANGE, "", "1", "a", (), (1,), [1], b"1", 1.0, 2.0, nest(1000), nest(100000), 10 ** 5000, -(10 ** 5000)]
NO_TUPLES = [*STRANGE, "", "ab", "jobs", 0, 1, [1, 1], [], {1: 1}]


def integers(least, most):
    """Integers at the edges, and all else that is none of these."""
    return [least, least + 1, most - 1, most], [least - 1, most + 1, 10 ** 12, -(10 ** 12), *NO_INTEGERS]


NAMES = (["a", "z", "jobs", "abcdefgh"],
         ["", "abcdefghi", "Jobs", "a1", "a b", " a", "a\n", "a_b", "\xe9", "\u0430", *NO_TEXTS])
BODIES = (["", " ", "~", "a" * 40, '"' * 40, "\\", "two words"],
          ["a" * 41, "a" * 60, "\n", "\x7f", "\xe9", "a\t", *NO_TEXTS])
BOOLS = ([True, False], [None, 0, 1, "", "True", "+", (), (True,), 1.0, [], 10 ** 5000, nest(100000)])
TOKENS = ([(1, 1), (3, 1), (1, 7), (GREATEST, GREATEST)],
          [(0, 1), (1, 0), (-1, 1), (1, -1), (10 ** 12, 1), (1, 10 ** 12), (1,), (1, 1, 1), (), (True, 1), (1, True),
           (None, 1), (1, None), ("1", 1), (1.0, 1), (1, 1.0), ((1,), 1), (1, (1,)), nest(1000), nest(100000),
           *NO_TUPLES])
NO_ITEMS = [(ITEM, list(ITEM)), (ITEM, None), (list(ITEM),), [ITEM], ITEM, ITEM[:5], (ITEM[:5],), (ITEM + (0,),), (1,),
            ("jobs",), (None,), ((),), (ITEM, ("jobs", "k", "a" * 41, 0, 0, 0)), (("jobs", "k", "a", 4, 0, 0), ITEM),
            (ITEM,) * 5, (ITEM,) * 400, nest(2), nest(1000), nest(100000), *NO_TUPLES]
SENDINGS = ([(ITEM,), (ITEM, ITEM), (ITEM,) * 4], [(), *NO_ITEMS])
MADE = ([(), (ITEM,), (ITEM, ITEM), (ITEM,) * 4], NO_ITEMS)
GROUPS = [("group", "crew", "jobs", None), ("group", "crew", "jobs", "dead")]
MAKINGS = ([("topic", "jobs", True), ("topic", "jobs", False), *GROUPS],
           [("topic", "jobs", 1), ("topic", "jobs"), ("group", "crew", "jobs", "jobs"), ["topic", "jobs", True],
            ("send", "ann", 1, (ITEM,)), ("done", "crew", 1, (1, 1), ()), ("failed", "crew", 1, 0), ("now", 4), (), None,
            True, "topic", 1, ("topic",), nest(100000)])
ROW = (1, ("now", 0))
ROWS = ([(), (ROW,), (ROW,) * 5, ((GREATEST, ("send", "ann", 1, (ITEM,))), (7, ("topic", "jobs", True)))],
        [(ROW,) * 6, [ROW], (list(ROW),), ((1, ["now", 0]),), ROW, ((0, ("now", 0)),), ((-1, ("now", 0)),),
         ((True, ("now", 0)),), ((10 ** 12, ("now", 0)),), ((1, ("now", -1)),), ((1, ("now", 10 ** 12)),), ((1,),),
         ((1, ("now", 0), 0),), ((None, ("now", 0)),), ((1, None),), (ROW, ()), (ROW, None), ((),), nest(1000),
         nest(100000), *NO_TUPLES])
FULL = ("(" + " ".join(["0"] * 400) + ")")
PICTURES = (["~", "0", "()", "(0 1)", "9" * 15, "-" + "9" * 15, '"a b"', "(" * 5 + ")" * 5, "(((((1)))))",
             '"' + "a" * 39998 + '"', '"' + r"\"" * 19999 + '"', FULL, '("' + "a" * 39996 + '")'],
            ["", "(0  1)", "( )", "1 ", "9" * 16, "-0", "00", "(" * 6 + ")" * 6, "((((((1))))))", "(1 (((((2))))))",
             '"' + "a" * 39999 + '"', '"' + r"\"" * 20000 + '"', "a", "(", "(0 1", "(" * 1000 + ")" * 1000,
             "(" * 20000 + ")" * 20000, '("' + "a" * 39997 + '")', '"a', "\n", "(0\n1)", "(0 " + FULL[1:], "\xe9",
             ("0",), (0, 1), *NO_TEXTS])
PARTS = {
    "name": NAMES, "body": BODIES, "bool": BOOLS, "token": TOKENS, "sending": SENDINGS, "made": MADE, "making": MAKINGS,
    "rows": ROWS, "picture": PICTURES, "count": integers(0, GREATEST), "number": integers(1, GREATEST),
    "priority": integers(0, 3), "wait": integers(0, 50), "tries": integers(0, 4), "broker": integers(0, 4),
    "leader": integers(-1, 4),
    "dead": ([None, "a", "more", "abcdefgh"], [worth for worth in NAMES[1] if worth is not None] + ["jobs"]),
}
ITEMS = [(("jobs", "k", "paint", 0, 0, 0), "name name body priority wait wait")]
TOKEN = [((3, 1), "number number")]
COMMANDS = [
    (("topic", "jobs", True), "name bool"), (("group", "crew", "jobs", None), "name name dead"),
    (("send", "ann", 1, (ITEM,)), "name number sending"), (("done", "crew", 1, (1, 1), ()), "name number token made"),
    (("failed", "crew", 1, 0), "name number tries"), (("now", 0), "count"),
]
BETWEEN = [
    (("ask", 2, 0, 7, 1), "number broker count count"), (("vote", 2, 0, True), "number broker bool"),
    (("rows", 2, 0, 0, 0, (ROW,), 0), "number broker count count rows count"),
    (("got", 2, 0, False, 4), "number broker bool count"),
    (("whole", 2, 0, 20, 1, "(0 1)"), "number broker count count picture"),
]
ASKS = [
    (("send", "ann", 1, (ITEM,)), "name number sending"), (("want", "bob", 1, "crew"), "name number name"),
    (("done", "bob", 2, "crew", 4, (1, 1), ()), "name number name number token made"),
    (("nay", "bob", 2, "crew", 4, (1, 1)), "name number name number token"),
    (("make", "ops", 1, ("topic", "jobs", False)), "name number making"),
]
ANSWERS = [
    (("ok", "ann", 1), "name number"), (("none", "bob", 1), "name number"), (("made", "ops", 1), "name number"),
    (("give", "bob", 1, "crew", 4, (1, 1), "jobs", "k", "one"), "name number name number token name name body"),
    (("yes", "bob", 2, "crew", 4, (1, 1)), "name number name number token"),
    (("stale", "bob", 2, "crew", 4, (1, 1)), "name number name number token"),
    (("elsewhere", "bob", 1, -1), "name number leader"),
]
LETTERS = BETWEEN + ASKS + ANSWERS
NOTHING = [*STRANGE, "", "now", "ask", 0, 1, 10 ** 5000, (), ((),), (None,), (1,), ("",), ("now",), ("ask",), ("ok",),
           ("nothing", 1), (["now"], 0), ({}, 1), (("now",), 0), (b"now", 0), (b"ok", "ann", 1), (True, 1), (None, 4),
           ("NOW", 0), ("now ", 0), ("Ok", "ann", 1), ("oks", "ann", 1), (len, 1), nest(2), nest(1000), nest(100000),
           (nest(100000), 1), ("a" * 100000, 1), (10 ** 5000, 1)]


def variants(sample, parts):
    """Each (value, whether it is good) in which one part of the sample is exchanged."""
    first = len(sample) - len(parts.split())
    for at, part in enumerate(parts.split()):
        for wanted, worths in zip((True, False), PARTS[part]):
            for worth in worths:
                yield sample[:first + at] + (worth,) + sample[first + at + 1:], wanted


def misshapen(sample):
    """What is like the sample, but has another form."""
    yield list(sample)
    yield (sample,)
    yield dict(enumerate(sample))
    yield sample + (0,)
    yield sample + (None,)
    yield sample + sample
    for at in range(len(sample)):
        yield sample[:at] + sample[at + 1:]
        yield sample[:at] + (sample[at], sample[at]) + sample[at + 1:]


class Judged(Case):
    """[7], [21] to [26]: the functions that judge."""

    def judge(self, function, samples):
        for sample, parts in samples:
            with self.subTest(function=function.__name__, sample=sample):
                self.assertIs(function(sample), True)
                self.assertIs(function(value=sample), True)
                for value, wanted in variants(sample, parts):
                    self.assertIs(function(value), wanted, repr(value)[:300] if wanted else value[0])
                for value in misshapen(sample):
                    self.assertIs(function(value), False, value)
        for at, value in enumerate(NOTHING):
            with self.subTest(function=function.__name__, at=at):
                self.assertIs(function(value), False)
                self.assertIs(function(value=value), False)

    def test_is_item(self):
        self.judge(is_item, ITEMS)

    def test_is_token(self):
        self.judge(is_token, TOKEN)

    def test_is_command(self):
        self.judge(is_command, COMMANDS)

    def test_is_letter(self):
        self.judge(is_letter, LETTERS)

    def test_group_and_its_dead(self):
        """[22]: the topic for the dead is another one than that which is read; the group's own name is no matter."""
        for command, wanted in [
            (("group", "a", "b", None), True), (("group", "a", "b", "c"), True), (("group", "a", "b", "b"), False),
            (("group", "a", "b", "a"), True), (("group", "a", "a", "b"), True), (("group", "a", "a", "a"), False),
            (("topic", "a", "a"), False),
        ]:
            with self.subTest(command=command):
                self.assertIs(is_command(command), wanted)
                self.assertIs(is_letter(("make", "ops", 1, command)), wanted)
                self.assertIs(is_letter(("rows", 1, 0, 0, 0, ((1, command),), 0)), wanted)

    def test_words_of_commands_and_of_letters(self):
        """A command is a letter only if it is that of a producer, and the other way round."""
        for sample, _ in COMMANDS:
            with self.subTest(sample=sample):
                self.assertIs(is_letter(sample), sample[0] == "send")
        for sample, _ in LETTERS:
            with self.subTest(sample=sample):
                self.assertIs(is_command(sample), sample[0] == "send")

    def test_figures(self):
        """[21]: at most 12 digits, but 15 in the text of a "whole" [23]."""
        for count, wanted in [(GREATEST, True), (10 ** 12, False), (10 ** 15 - 1, False)]:
            with self.subTest(count=count):
                self.assertIs(is_token((count, 1)), wanted)
                self.assertIs(is_token((1, count)), wanted)
                self.assertIs(is_command(("now", count)), wanted)
                self.assertIs(is_command(("done", "crew", count, (1, 1), ())), wanted)
                self.assertIs(is_letter(("rows", 1, 0, 0, 0, ((count, ("now", 0)),), 0)), wanted)
                self.assertIs(is_letter(("rows", 1, 0, 0, 0, ((1, ("now", count)),), 0)), wanted)
                self.assertIs(is_letter(("make", "ops", count, ("topic", "jobs", True))), wanted)
                self.assertIs(is_letter(("whole", 1, 0, 1, 1, str(count))), True)
        self.assertIs(is_letter(("whole", 1, 0, 1, 1, str(10 ** 15))), False)

    def test_all_are_values(self):
        """[21]: items, tokens, commands and letters have lines, and so have sums of their integers."""
        greatest = [(GREATEST, GREATEST), ("rows", GREATEST, 4, GREATEST, GREATEST, (
            (GREATEST, ("send", "abcdefgh", GREATEST, (("abcdefgh", "abcdefgh", '"' * 40, 3, 50, 50),) * 4)),) * 5, 0)]
        self.assertIs(is_letter(greatest[1]), True)
        for value in [sample for sample, _ in ITEMS + TOKEN + COMMANDS + LETTERS] + greatest:
            with self.subTest(value=value):
                self.assertIs(is_value(value), True)
                self.assertLess(len(line(value)), 80001)
        self.assertIs(is_value(sum([GREATEST] * 400)), True)

    def test_nothing_is_changed(self):
        """[3]: what is handed in is never changed."""
        item = list(ITEM)
        for value in [
            item, ["send", "ann", 1, [item]], ("send", "ann", 1, [item]), ("done", "bob", 1, "crew", 1, [1, 1], [item]),
            ("rows", 1, 0, 0, 0, [[1, ["now", 0]]], 0), ["want", "bob", 1, "crew"], {"want": ["bob"]},
        ]:
            with self.subTest(value=value):
                before = copy.deepcopy(value)
                for function in (is_item, is_token, is_command, is_letter):
                    self.assertIs(function(value), False)
                self.assert_given(InvalidLetter, value, side, value)
                self.assert_given(InvalidLetter, value, client_of, value)
                self.assertEqual(value, before)


class Sides(Case):
    """[26]: side and client_of."""

    def test_side(self):
        for samples, wanted in [(BETWEEN, "brokers"), (ASKS, "asks"), (ANSWERS, "answers")]:
            for sample, parts in samples:
                with self.subTest(sample=sample):
                    self.assertEqual(side(sample), wanted)
                    self.assertEqual(side(letter=sample), wanted)
                    for value, good in variants(sample, parts):
                        if good:
                            self.assertEqual(side(value), wanted)
                        else:
                            self.assert_given(InvalidLetter, value, side, value)

    def test_client_of(self):
        for sample, parts in ASKS + ANSWERS:
            with self.subTest(sample=sample):
                self.assertEqual(client_of(sample), sample[1])
                self.assertEqual(client_of(letter=sample), sample[1])
                for value, good in variants(sample, parts):
                    if good:
                        self.assertEqual(client_of(value), value[1])
                    else:
                        self.assert_given(InvalidLetter, value, client_of, value)

    def test_no_client(self):
        for sample, parts in BETWEEN:
            with self.subTest(sample=sample):
                self.assert_given(InvalidLetter, sample, client_of, sample)
                self.assert_given(InvalidLetter, sample, client_of, letter=sample)
                for value, _ in variants(sample, parts):
                    self.assert_given(InvalidLetter, value, client_of, value)

    def test_no_letters(self):
        commands = [sample for sample, _ in COMMANDS if sample[0] != "send"]
        shapes = [value for sample, _ in LETTERS for value in misshapen(sample)]
        for at, value in enumerate([*NOTHING, *commands, ITEM, (3, 1), *shapes]):
            with self.subTest(at=at):
                for function in (side, client_of):
                    self.assert_given(InvalidLetter, value, function, value)
                    self.assert_given(InvalidLetter, value, function, letter=value)


if __name__ == "__main__":
    unittest.main()
