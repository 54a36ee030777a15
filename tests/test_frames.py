"""Points [3], [5], [6], [7] and [41] to [44]: frames."""

import copy
import itertools
import random
import re
import unittest

from inorderonce.errors import InvalidCount, InvalidText
from inorderonce.frames import all_framed, cut_at, framed, frames_in, is_whole
from tests.support import NO_COUNTS, NO_LISTS, STRANGE, Case, nest

SIGNS = "".join([chr(code) for code in range(32, 127)])
LONG = "x" * 80000
TEXTS = ["", "x", ";", ":", "00001:x;", "a;b", " ", SIGNS, "12345", "y" * 10, LONG, "\\\"", "0" * 99]
ODD_SIGNS = ["\n", "\t", "\r", "\x00", "\x1f", "\x7f", "\x80", "\xa0", "\xe9", "\u0663", "\uff11", "\u2028", "\ud800"]
NO_SIGNS = [*STRANGE, *ODD_SIGNS, *["a" + sign for sign in ODD_SIGNS], 0, 1, (), ("a",), nest(1000), nest(100000),
            10 ** 5000]
NO_TEXTS = [*NO_SIGNS, "x" * 80001, "x" * 200000]


def plain_frame(text):
    """The frame of a text by the words of [41]."""
    return "%05d:" % len(text) + text + ";"


def plain_frames_in(text):
    """What [42] tells, found by a pattern."""
    texts, at = [], 0
    while True:
        found = re.compile(r"([0-9]{5}):").match(text, at)
        if not found or int(found.group(1)) > 80000:
            return texts, at
        end = found.end() + int(found.group(1))
        if text[end:end + 1] != ";":
            return texts, at
        texts.append(text[found.end():end])
        at = end + 1


class Framed(Case):
    """[41]: making frames."""

    def test_ordinary(self):
        for text in TEXTS:
            with self.subTest(text=text[:20]):
                self.assertEqual(framed(text), plain_frame(text))
                self.assertEqual(framed(text=text), plain_frame(text))
        self.assertEqual(framed("a;b"), "00003:a;b;")
        self.assertEqual(framed("x" * 12345), "12345:" + "x" * 12345 + ";")
        self.assertEqual(framed(LONG), "80000:" + LONG + ";")

    def test_invalid(self):
        for at, text in enumerate(NO_TEXTS):
            with self.subTest(at=at):
                self.assert_given(InvalidText, text, framed, text)
                self.assert_given(InvalidText, text, framed, text=text)

    def test_all_framed(self):
        for texts in ([], (), ["x", ""], ("x", ""), TEXTS, tuple(TEXTS), [LONG, LONG]):
            with self.subTest(many=len(texts)):
                before = copy.copy(texts)
                self.assertEqual(all_framed(texts), "".join([plain_frame(text) for text in texts]))
                self.assertEqual(all_framed(texts=texts), all_framed(texts))
                self.assertEqual(texts, before)
        self.assertEqual(all_framed(["", "", "a"]), "00000:;00000:;00001:a;")

    def test_no_lists(self):
        for at, texts in enumerate(NO_LISTS):
            with self.subTest(at=at):
                self.assert_given(InvalidText, texts, all_framed, texts)
                self.assert_given(InvalidText, texts, all_framed, texts=texts)
                for signs in (0, -1, None):
                    self.assert_given(InvalidText, texts, cut_at, texts, signs)

    def test_first_wrong_text(self):
        for at, text in enumerate(NO_TEXTS):
            with self.subTest(at=at):
                for texts in ([text], (text,), ["x", text], ["x", "y", text, "\n", None], ("", text, "x" * 80001)):
                    self.assert_given(InvalidText, text, all_framed, texts)
                    for signs in (0, 99, -1, None, "1"):
                        self.assert_given(InvalidText, text, cut_at, texts, signs)


class Found(Case):
    """[42], [43]: finding frames."""

    def check(self, text):
        texts, signs = plain_frames_in(text)
        found = frames_in(text)
        self.assertEqual(found, (texts, signs))
        self.assertEqual([type(found), type(found[0])], [tuple, list])
        self.assertIs(is_whole(text), signs == len(text))

    def test_ordinary(self):
        for text, found in [
            ("", ([], 0)), ("00000:;", ([""], 7)), ("00001:x;", (["x"], 8)), ("00001:x;0000", (["x"], 8)),
            ("00001:x;00000:;", (["x", ""], 15)), ("x00001:x;", ([], 0)), (" 00001:x;", ([], 0)),
            ("00001:x; ", (["x"], 8)),
            ("00001:x;x00001:x;", (["x"], 8)), ("00003:a;b;", (["a;b"], 10)), ("00008:00001:x;;", (["00001:x;"], 15)),
            ("00002:x;", ([], 0)), ("00001:xy;", ([], 0)), ("00001:x", ([], 0)), ("00001:x:", ([], 0)),
            ("00001;x;", ([], 0)),
            ("0001:x;", ([], 0)), ("000001:x;", ([], 0)), ("1:x;", ([], 0)), ("-0001:x;", ([], 0)),
            ("+0001:x;", ([], 0)),
            ("0000a:;", ([], 0)), ("0_001:x;", ([], 0)), ("    1:x;", ([], 0)), ("00001:;;", ([";"], 8)),
            ("00001:;", ([], 0)),
            ("00000:x", ([], 0)), ("0", ([], 0)), ("00000", ([], 0)), ("00000:", ([], 0)), (";", ([], 0)),
            (":", ([], 0)),
            ("00000:;00002:a;00000:;", ([""], 7)),
        ]:
            with self.subTest(text=text):
                self.assertEqual(frames_in(text), found)
                self.assertEqual(frames_in(text=text), found)
                self.assertIs(is_whole(text), found[1] == len(text))
                self.assertIs(is_whole(value=text), found[1] == len(text))
                self.check(text)

    def test_great_numbers(self):
        """A number above 80,000 begins no frame."""
        self.assertEqual(frames_in("80000:" + LONG + ";"), ([LONG], 80007))
        self.assertEqual(frames_in("80001:x" + LONG + ";"), ([], 0))
        self.assertEqual(frames_in("00001:x;80001:x" + LONG + ";"), (["x"], 8))
        self.assertEqual(frames_in("99999:" + "x" * 99999 + ";"), ([], 0))
        self.assertIs(is_whole("80000:" + LONG + ";"), True)
        self.assertIs(is_whole("80001:x" + LONG + ";"), False)

    def test_long(self):
        text = (plain_frame(LONG) + plain_frame("")) * 5
        self.assertEqual(frames_in(text), ([LONG, ""] * 5, len(text)))
        self.assertIs(is_whole(text), True)
        self.assertEqual(frames_in(text + "0" * 300000), ([LONG, ""] * 5, len(text)))
        many = plain_frame("ab") * 20000
        self.assertEqual(frames_in(many), (["ab"] * 20000, len(many)))

    def test_invalid(self):
        for at, text in enumerate(NO_SIGNS):
            with self.subTest(at=at):
                self.assert_given(InvalidText, text, frames_in, text)
                self.assert_given(InvalidText, text, frames_in, text=text)
                self.assertIs(is_whole(text), False)
                self.assertIs(is_whole(value=text), False)

    def test_wrong_sign_at_any_place(self):
        for sign in ODD_SIGNS:
            for text in (sign + "00001:x;", "00001:" + sign + ";", "00001:x;" + sign, "00001:x;0000" + sign,
                         "00001:x;junk" + sign,
                         "0000" + sign + ":;", plain_frame("x" * 1000) * 100 + "junk" + sign):
                self.assert_given(InvalidText, text, frames_in, text)
                self.assertIs(is_whole(text), False)

    def test_each_cut_and_exchange(self):
        text = all_framed(["ab", "", ";", "00001:x;"])
        for at in range(len(text) + 1):
            self.check(text[:at])
            self.check(text[at:])
            for sign in "0189:;x -":
                self.check(text[:at] + sign + text[at:])
                self.check(text[:at] + sign + text[at + 1:])

    def test_short_texts(self):
        for many in range(5):
            for signs in itertools.product("01:;", repeat=many):
                self.check("0000" + "".join(signs))

    def test_made_at_random(self):
        source = random.Random(41)
        for _ in range(3000):
            texts = ["".join(source.choices("0:;x", k=source.randrange(4))) for _ in range(source.randrange(4))]
            self.check(all_framed(texts) + "".join(source.choices("0012:;", k=source.randrange(12))))

    def test_what_is_returned(self):
        """[3]: the list is the asker's own."""
        text = "00001:x;"
        frames_in(text)[0].append("more")
        self.assertEqual(frames_in(text), (["x"], 8))


class Cuts(Case):
    """[43], [44]: how many are whole."""

    def test_ordinary(self):
        for texts, signs, wanted in [
            ([], 0, 0), ([], 99, 0), ([""], 6, 0), ([""], 7, 1), (["x", ""], 7, 0), (["x", ""], 8, 1),
            (["x", ""], 14, 1),
            (["x", ""], 15, 2), (["x", ""], 16, 2), (["x", ""], 10 ** 30, 2), (("x", ""), 15, 2), ([LONG], 80006, 0),
            ([LONG], 80007, 1), (["", LONG, ""], 7 + 80007, 2), (["", LONG, ""], 14 + 80006, 2),
            (["", LONG, ""], 14 + 80007, 3),
        ]:
            with self.subTest(many=len(texts), signs=signs):
                before = copy.copy(texts)
                self.assertEqual(cut_at(texts, signs), wanted)
                self.assertEqual(cut_at(texts=texts, signs=signs), wanted)
                self.assertEqual(texts, before)

    def test_invalid_signs(self):
        for at, signs in enumerate(NO_COUNTS):
            with self.subTest(at=at):
                for texts in ([], ["x"], ("x", "")):
                    self.assert_given(InvalidCount, signs, cut_at, texts, signs)
                    self.assert_given(InvalidCount, signs, cut_at, signs=signs, texts=texts)

    def test_what_is_found_in_a_beginning(self):
        source = random.Random(43)
        lists = [["ab", "", ";", "00001:x;"], [""] * 5, ["00000:;"] * 3, []]
        lists = lists + [["".join(source.choices("0:;x", k=source.randrange(9))) for _ in range(6)] for _ in range(20)]
        for texts in lists:
            text = all_framed(texts)
            self.assertIs(is_whole(text), True)
            before = 0
            for signs in range(len(text) + 3):
                many = cut_at(texts, signs)
                self.assertGreaterEqual(many, before)
                self.assertEqual(frames_in(text[:signs])[0], texts[:many])
                before = many
            self.assertEqual(before, len(texts))


if __name__ == "__main__":
    unittest.main()
