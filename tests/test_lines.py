"""Points [2], [3], [6], [7], [11], [12] and [13]: names, plain texts, values and their lines."""

import copy
import random
import re
import string
import unittest

from inorderonce.errors import InvalidLine, InvalidValue, TooLong
from inorderonce.lines import is_name, is_nested, is_plain, is_value, line, read_line
from tests.support import STRANGE, Case, nest

SIGNS = "".join([chr(code) for code in range(32, 127)])
OTHER_SIGNS = ["\n", "\t", "\r", "\x00", "\x1f", "\x7f", "\x80", "\xa0", "\xe9", "\u0663", "\uff11", "\u2028", "\ud800"]
ROW = (0,) * 400
# 1 and 50 times 401 and 49 are 20,100 values, though few of them are objects of their own.
FULL = (ROW,) * 50 + ((0,) * 48,)
OVERFULL = (ROW,) * 50 + ((0,) * 49,)


def shared(width, deep):
    """A tuple with width to the power of deep values, in which each tuple has one part many times."""
    value = 0
    for _ in range(deep):
        value = (value,) * width
    return value


LINES = {
    "~": None, "+": True, "!": False, "0": 0, "1": 1, "-1": -1, "10": 10, "907": 907, "-120": -120,
    "9" * 15: 10 ** 15 - 1, "-" + "9" * 15: 1 - 10 ** 15, "1" + "0" * 14: 10 ** 14,
    '""': "", '" "': " ", '"a b"': "a b", '"~+!()0"': "~+!()0", r'"\""': '"', r'"\\"': "\\", r'"\\\""': '\\"',
    r'"\"\\"': '"\\', r'"\\n"': "\\n", r'"\\\\\"\"\\"': '\\\\""\\', '"\'"': "'", '"' + "x" * 400 + '"': "x" * 400,
    "()": (), "(())": ((),), "(() ())": ((), ()), "(1)": (1,), "(1 2 3)": (1, 2, 3), "(~ + !)": (None, True, False),
    "(-7 () (0 \"\"))": (-7, (), (0, "")), '("a" "b c" (1 (2 (3 (4 (5))))))': ("a", "b c", (1, (2, (3, (4, (5,)))))),
    "((((((1))))))": ((((((1,),),),),),), "((((((~ +))) 1)) 2)": ((((((None, True),),), 1),), 2),
}
GOOD = [*LINES.values(), SIGNS, SIGNS[::-1], ROW, FULL, nest(6), (nest(5), nest(5)), "a" * 40000, ("a" * 40000, "")]
BAD = [
    *[value for value in STRANGE if value is not None and not isinstance(value, bool)],
    1.5, float("nan"), 1j, b"", frozenset(), range(3), 10 ** 15, -(10 ** 15), 10 ** 5000, -(10 ** 5000),
    "a" * 40001, " " * 80000, "\n", "a\nb", "\x7f", *OTHER_SIGNS, *["a" + sign for sign in OTHER_SIGNS],
    (0,) * 401, ((0,) * 401,), (0,) * 100000, nest(7), (1, nest(6)), nest(1000), nest(100000), OVERFULL,
    (1.0,), ([],), ({},), (1, [2]), (1, (2, [3])), ("\n",), (b"a",), (10 ** 15,), (10 ** 5000,), (set(),), (object(),),
    shared(2, 40), shared(400, 6), shared(400, 3), shared(142, 2),
]


class Kinds(Case):
    """[2], [7], [11]: the functions that judge, by place and by name."""

    def judge(self, function, goods, bads):
        for wanted, values in ((True, goods), (False, bads)):
            for at, value in enumerate(values):
                with self.subTest(function=function.__name__, wanted=wanted, at=at):
                    self.assertIs(function(value), wanted)
                    self.assertIs(function(value=value), wanted)

    def test_is_name(self):
        goods = ["a", "z", "jobs", "abcdefgh", *string.ascii_lowercase, "z" * 8]
        bads = [
            *STRANGE, "", "abcdefghi", "Jobs", "jobS", "A", "a1", "1", "a b", " ", "a ", " a", "a_b", "a-b", "`", "{",
            "a\n", "\n", "\xe9", "\xdf", "\u0430", "a" * 100000, 1, 0, 97, (), ("a",), ["a"], nest(1000), nest(100000),
            10 ** 5000, *OTHER_SIGNS,
        ]
        self.judge(is_name, goods, bads)

    def test_each_sign_of_a_name(self):
        for sign in SIGNS:
            with self.subTest(sign=sign):
                self.assertIs(is_name("a" + sign), sign in string.ascii_lowercase)
                self.assertIs(is_name(sign), sign in string.ascii_lowercase)

    def test_is_plain(self):
        goods = ["", " ", "~", "a b", "a" * 60, SIGNS[:60], SIGNS[60:], '"', "\\", *SIGNS]
        bads = [
            *STRANGE, "a" * 61, " " * 61, "a" * 100000, "\n", "a\n", *OTHER_SIGNS, *["a" + sign for sign in OTHER_SIGNS],
            1, 0, (), ("a",), ["a"], nest(1000), nest(100000), 10 ** 5000,
        ]
        self.judge(is_plain, goods, bads)

    def test_is_value(self):
        self.judge(is_value, GOOD, BAD)

    def test_edges_of_a_value(self):
        for good, bad in [
            (10 ** 15 - 1, 10 ** 15), (1 - 10 ** 15, -(10 ** 15)), ("a" * 40000, "a" * 40001),
            ((0,) * 400, (0,) * 401), (nest(6), nest(7)), (FULL, OVERFULL), ("~", "\x7f"), (" ", "\x1f"),
            ((None,) * 400, (None,) * 401), (((),) * 400, ((),) * 401), ((nest(5), 1), (nest(6), 1)),
        ]:
            with self.subTest(good=repr(good)[:20]):
                self.assertIs(is_value(good), True)
                self.assertIs(is_value(bad), False)

    def test_is_nested(self):
        """The depth that other modules ask for, as a letter's "whole" does."""
        for deep in range(7):
            for bound in range(7):
                with self.subTest(deep=deep, bound=bound):
                    value = nest(deep) if deep > 0 else 1
                    self.assertIs(is_nested(value, bound), deep <= bound)

    def test_nothing_is_changed(self):
        for value in [[1, [2]], {"a": [1]}, (1, [2, 3]), ["a"], [[]]]:
            with self.subTest(value=value):
                before = copy.deepcopy(value)
                is_name(value), is_plain(value), is_value(value)
                self.assert_given(InvalidValue, value, line, value)
                self.assert_given(InvalidLine, value, read_line, value)
                self.assertEqual(value, before)


class Lines(Case):
    """[12]: the line of a value."""

    def test_ordinary(self):
        for text, value in LINES.items():
            with self.subTest(text=text):
                self.assertEqual(line(value), text)
                self.assertEqual(line(value=value), text)

    def test_every_sign_of_a_text(self):
        for sign in SIGNS:
            with self.subTest(sign=sign):
                self.assertEqual(line("a" + sign), '"a' + ("\\" if sign in '"\\' else "") + sign + '"')

    def test_invalid(self):
        for at, value in enumerate(BAD):
            with self.subTest(at=at):
                self.assert_given(InvalidValue, value, line, value)
                self.assert_given(InvalidValue, value, line, value=value)

    def test_too_long(self):
        for value, signs in [
            (("a" * 40000, "b" * 39993), 80000), (("a" * 40000, "b" * 39994), 80001), ('"' * 39999, 80000),
            ('"' * 40000, 80002), ("\\" * 39999, 80000), ("\\" * 40000, 80002), ("a" * 40000, 40002),
            (("a" * 40000,) * 2, 80007), (("a" * 40000,) * 400, 2 + 399 + 400 * 40002),
            (("\\" * 20000 + '"' * 19996, ()), 79999), (("\\" * 20000 + '"' * 19997, ()), 80001),
            (("a" * 39992, 10 ** 14, -1, "b" * 39982), 80000), (("a" * 39992, 10 ** 14, -1, "b" * 39983), 80001),
            (("a" * 40000, "b" * 39986, None, True, False), 79999),
            (("a" * 40000, "b" * 39987, None, True, False), 80000), (("a" * 40000, "b" * 39988, (), 5), 80000),
            (("a" * 40000, "b" * 39987, None, True, False, 0), 80002),
        ]:
            with self.subTest(signs=signs):
                if signs <= 80000:
                    self.assertEqual(len(line(value)), signs)
                    self.assertEqual(read_line(line(value)), value)
                else:
                    with self.assertRaises(TooLong) as caught:
                        line(value)
                    self.assertEqual(vars(caught.exception), {"signs": signs})
                    self.assertIs(type(caught.exception), TooLong)

    def test_far_too_long(self):
        """20,100 values, nearly all of them texts of 40,000 signs: counted, and never written."""
        texts = ("a" * 40000,) * 400
        value = (texts,) * 50
        with self.assertRaises(TooLong) as caught:
            line(value)
        self.assertEqual(caught.exception.signs, 2 + 49 + 50 * (2 + 399 + 400 * 40002))

    def test_invalid_ahead_of_too_long(self):
        for value in [("a" * 40000, "b" * 40000, []), ("a" * 40000,) * 401, ("a" * 40001, "b" * 40000)]:
            self.assert_given(InvalidValue, value, line, value)


def strict(text, at, deep):
    """The (value, place behind it) that begins here by the words of [11] and [12], or None: for comparison."""
    for pattern, meant in [
        (r"~", lambda word: None), (r"\+", lambda word: True), (r"!", lambda word: False),
        (r"(?:0|-?[1-9][0-9]{0,14})(?![0-9])", int),
        (r'"(?:[ !#-\[\]-~]|\\["\\])*"', lambda word: re.sub(r"\\(.)", r"\1", word[1:-1])),
    ]:
        found = re.compile(pattern).match(text, at)
        if found:
            return meant(found.group()), found.end()
    if deep == 0 or text[at:at + 1] != "(":
        return None
    if text[at + 1:at + 2] == ")":
        return (), at + 2
    values = []
    while text[at:at + 1] == (" " if values else "("):
        found = strict(text, at + 1, deep - 1)
        if found is None:
            return None
        values.append(found[0])
        at = found[1]
    return (tuple(values), at + 1) if text[at:at + 1] == ")" else None


class ReadLines(Case):
    """[13]: there and back, and all that is only nearly a line."""

    def compare(self, text):
        """read_line takes a (short) text exactly if it is a line by the words of the document."""
        found = strict(text, 0, 6)
        if found is not None and found[1] == len(text):
            value = read_line(text)
            self.assertEqual(repr(value), repr(found[0]))
            self.assertEqual(line(value), text)
            return True
        self.assert_given(InvalidLine, text, read_line, text)
        return False

    def test_ordinary(self):
        for text, value in LINES.items():
            with self.subTest(text=text):
                self.assertEqual(repr(read_line(text)), repr(value))
                self.assertEqual(repr(read_line(text=text)), repr(value))
                self.assertTrue(self.compare(text))

    def test_there_and_back(self):
        for at, value in enumerate(GOOD):
            with self.subTest(at=at):
                text = line(value)
                self.assertEqual(repr(read_line(text)), repr(value))
                self.assertEqual(line(read_line(text)), text)

    def test_no_line_is_that_of_two_values(self):
        lines = [line(value) for value in LINES.values()]
        self.assertEqual(len(set(lines)), len(lines))
        self.assertEqual(len({line(value) for value in (0, False, None, "", (), 1, True, "0", "1", (0,), (False,))}), 11)

    def test_no_texts(self):
        for at, value in enumerate([*STRANGE, 0, 1, (), ("~",), ["~"], b"~", nest(1000), nest(100000), 10 ** 5000]):
            with self.subTest(at=at):
                self.assert_given(InvalidLine, value, read_line, value)
                self.assert_given(InvalidLine, value, read_line, text=value)

    def test_no_lines(self):
        for text in [
            "", " ", "00", "01", "007", "-0", "-00", "-01", "--1", "+1", "1-", "-", "1_0", "1.0", "1e3", "0x1", "9" * 16,
            "-" + "9" * 16, "0" + "9" * 15, "9" * 5000, "-" + "9" * 5000, "0" * 5000, "9" * 80000, " 1", "1 ", "1 2",
            "~~", "~ ", "+ +", "?", "None", "True", "a", "'a'", '"', '"a', 'a"', '"a" ', '"a""b"', '"a"b"', r'"\"',
            r'"\\\"', r'"\n"', r'"\a"', r'"\ "', r'"\u0061"', r'"\\\"', r"\"\"", "(", ")", "())", "(()", ")(", "( )",
            "(1 )", "( 1)", "(1  2)", "(1,2)", "(1, 2)", "(1", "1)", "(1 2", "(1(2))", "((1)2)", "(()())", "(~+)", '("a""b")',
            '("a"1)', '(1"a")', "()()", "() ()", "[]", "(1\t2)", "(1\n2)", "1\n", "\n1", "~\n", '"a\n"', '"\t"', '"\x7f"',
            '"\xe9"', "\uff11", "\u0663", "(\xa01)", "\ud800", "(" + " ".join(["0"] * 401) + ")", "(" * 7 + ")" * 7,
            "(" * 1000 + ")" * 1000, "(" * 40000 + ")" * 40000, "(" * 80000, ")" * 80000, '"' * 80000, "\\" * 80000,
            " " * 80000, '"' + "\\" * 79999, "~" * 80000, '"' + "a" * 40001 + '"', '"' + "a" * 79998 + '"',
            "(" + "() " * 26665 + "())", "(" + "(" * 6 + ")" * 6 + ")", "(1 " + "(" * 6 + ")" * 6 + ")",
        ]:
            with self.subTest(text=text[:30]):
                self.assert_given(InvalidLine, text, read_line, text)

    def test_edges(self):
        row = "(" + " ".join(["0"] * 400) + ")"
        for good, bad in [
            ("9" * 15, "1" + "0" * 15), ("-" + "9" * 15, "-1" + "0" * 15), (row, "(0 " + row[1:]),
            ("(" * 6 + ")" * 6, "(" * 7 + ")" * 7), ('"' + "a" * 40000 + '"', '"' + "a" * 40001 + '"'),
            ('"' + r"\\" * 39999 + '"', '"' + r"\\" * 40000 + '"'),
            ("(" + f"{row} " * 50 + row[:2 * 48] + "))", "(" + f"{row} " * 50 + row[:2 * 49] + "))"),
            (f'("{"a" * 40000}" "{"b" * 39993}")', f'("{"a" * 40000}" "{"b" * 39994}")'),
        ]:
            with self.subTest(good=good[:30], signs=len(good)):
                self.assertEqual(line(read_line(good)), good)
                self.assert_given(InvalidLine, bad, read_line, bad)

    def test_longer_than_any_line(self):
        for text in ["(" + "1" * 80000, "a" * 80001, "1 " * 100000, '"' + "a" * 1000000 + '"']:
            self.assert_given(InvalidLine, text, read_line, text)

    def test_nearly_lines(self):
        """One sign taken out, put in, or exchanged, at each place of each line."""
        signs = ['"', "\\", "(", ")", " ", "~", "+", "!", "-", "0", "1", "a", "\n", "\x7f", "\xe9", "_"]
        taken = 0
        for text in [text for text in LINES if len(text) < 60]:
            for at in range(len(text) + 1):
                nearly = [text[:at] + text[at + 1:]]
                nearly = nearly + [text[:at] + sign + text[at:] for sign in signs]
                nearly = nearly + [text[:at] + sign + text[at + 1:] for sign in signs]
                nearly = nearly + [text[:at] + text[at + 1:at + 2] + text[at:at + 1] + text[at + 2:]]
                for other in nearly:
                    taken = taken + self.compare(other)
        self.assertGreater(taken, 1000)

    def test_all_short_texts(self):
        for signs in ['"\\a', "() 1", "-01", '~"(']:
            for number in range(4 ** 6):
                text = "".join([signs[number // 4 ** place % 4:][:1] for place in range(6)])
                self.compare(text)

    def test_made_at_random(self):
        source = random.Random(11)

        def make(deep):
            kind = source.randrange(8 if deep > 0 else 5)
            if kind == 0:
                return source.choice([None, True, False])
            if kind < 3:
                return source.choice([-1, 1]) * source.randrange(10 ** source.randrange(16))
            if kind < 5:
                return "".join(source.choices(source.choice([SIGNS, '"\\', "a\\"]), k=source.randrange(9)))
            return tuple([make(deep - 1) for _ in range(source.randrange(5))])

        for _ in range(2000):
            value = make(6)
            text = line(value)
            self.assertEqual(repr(read_line(text)), repr(value))
            self.assertTrue(self.compare(text))
            at = source.randrange(len(text) + 1)
            self.compare(text[:at] + source.choice(SIGNS) + text[at + source.randrange(3):])


if __name__ == "__main__":
    unittest.main()
