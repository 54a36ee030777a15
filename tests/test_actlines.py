"""Points [6], [7], [181] and [182]: acts as lines of words."""

import random

from inorderonce.actlines import act_line, read_act
from inorderonce.errors import InvalidAct, InvalidText
from inorderonce.worlds import World
from tests.support import FALSE_LETTERS, ITEM, NO_INTEGERS, NO_LISTS, NO_NAMES, STRANGE, Case, any_act, any_world, nest

GREATEST = 999999999999999
TOPIC, GROUP = ("topic", "jobs", False), ("group", "crew", "jobs", None)
# Acts with their lines.
LINES = [
    (("tick", 0), "tick 0"), (("tick", 4), "tick 4"), (("tick", "bob"), "tick bob"), (("rise", 3), "rise 3"),
    (("rise", "abcdefgh"), "rise abcdefgh"), (("carry", 0), "carry 0"), (("carry", GREATEST), f"carry {GREATEST}"),
    (("lose", 10), "lose 10"), (("double", 7), "double 7"), (("fall", 1, ()), "fall 1"),
    (("fall", "a", (0,)), "fall a 0"),
    (("fall", 4, (3, 0, GREATEST)), f"fall 4 3 0 {GREATEST}"), (("cut", 0, None, ()), "cut 0 -"),
    (("cut", "bob", None, (5,)), "cut bob - 5"), (("cut", 2, 0, ()), "cut 2 0"),
    (("cut", 2, 12, (0, 1)), "cut 2 12 0 1"),
    (("cut", 0, GREATEST, (GREATEST,)), f"cut 0 {GREATEST} {GREATEST}"),
    (("send", "ann", (("jobs", "k", "", 0, 0, 0),)), 'send ann jobs k "" 0 0 0'),
    (("send", "ann", (("a", "b", "c", 3, 50, 49),)), 'send ann a b "c" 3 50 49'),
    (("send", "ann", (ITEM, ("a", "b", ', "x" 1, \\', 1, 2, 3), ITEM, ITEM)),
     'send ann jobs k "paint" 0 0 0, a b ", \\"x\\" 1, \\\\" 1 2 3, jobs k "paint" 0 0 0, jobs k "paint" 0 0 0'),
    (("send", "send", (("a", "b", "x" * 40, 0, 0, 0),)), f'send send a b "{"x" * 40}" 0 0 0'),
    (("send", "ann", (("a", "b", "  ", 0, 0, 0), ("a", "b", '"', 0, 0, 0), ("a", "b", "\\", 0, 0, 0),
                      ("a", "b", ",", 0, 0, 0))),
     'send ann a b "  " 0 0 0, a b "\\"" 0 0 0, a b "\\\\" 0 0 0, a b "," 0 0 0'),
    (("make", "ops", 1, ("topic", "jobs", False)), "make ops 1 topic jobs"),
    (("make", "ops", 999999999999, ("topic", "last", True)), "make ops 999999999999 topic last last"),
    (("make", "make", 12, ("topic", "topic", False)), "make make 12 topic topic"),
    (("make", "ops", 2, ("group", "crew", "jobs", None)), "make ops 2 group crew jobs"),
    (("make", "ops", 2, ("group", "crew", "jobs", "dead")), "make ops 2 group crew jobs dead"),
    (("make", "topic", 2, ("group", "group", "last", "group")), "make topic 2 group group last group"),
    (("tick", "tick"), "tick tick"), (("rise", "calm"), "rise calm"), (("cut", "cut", 1, (2,)), "cut cut 1 2"),
    (("fall", "fall", ()), "fall fall"),
]


class Lines(Case):
    """[181], [182]: each act there and back."""

    def test_both_ways(self):
        for act, text in LINES:
            with self.subTest(text=text):
                self.assertEqual([act_line(act), act_line(act=act)], [text, text])
                self.assertEqual([repr(read_act(text)), read_act(text=text)], [repr(act), act])

    def test_keeps_may_be_a_list(self):
        for act, text in LINES:
            if act[0] in ("fall", "cut"):
                held = (*act[:-1], list(act[-1]))
                self.assertEqual([act_line(held), read_act(act_line(held))], [text, act])

    def test_long_ones(self):
        """Lines are as long as their acts make them."""
        keeps = tuple(range(0, 4 * 10 ** 5, 2))
        act = ("fall", 0, keeps)
        self.assertEqual(read_act(act_line(act)), act)
        self.assertGreater(len(act_line(act)), 10 ** 6)
        for text in ("x" * 10 ** 6, " " * 10 ** 6, '"' * 10 ** 5, "carry " + "1" * 10 ** 5, "\\" * 10 ** 5,
                     "send ann" + " a" * 10 ** 5):
            self.assert_given(InvalidText, text, read_act, text)

    def test_any(self):
        for seed in range(40):
            source = random.Random(seed)
            world = World(*any_world(source))
            for _ in range(60):
                act = any_act(source, world)
                act = (*act[:-1], tuple(act[-1])) if act[0] in ("fall", "cut") else act
                self.assertEqual(read_act(act_line(act)), act)


class NoActs(Case):
    """[182]: what has no line."""

    def wrong(self):
        acts = [*STRANGE, 0, 1, "tick 0", "tick", (), ("tick",), ["tick", 0], ("tick", 0, 0), ("Tick", 0),
                (0, "tick"), ([], 0), ({}, 0), ("calm", 1), ("carry",), ("carry", 0, 0), ("fall", 0),
                ("fall", 0, (), ()), ["fall", 0, ()], ("cut", 0, 1), ("cut", 0, ()), ("cut", 0, 1, (), ()),
                ("send", "ann"), ("send", "ann", (ITEM,), ()), ("send", "ann", 1, (ITEM,)), ("make", "ops", 1),
                ("make", 0, 1, TOPIC), ("make", "ops", 1, TOPIC, 0), ["make", "ops", 1, TOPIC],
                ("want", "bob", 1, "crew"), ("ok", "ann", 1), ("topic", "jobs", False), nest(1000),
                ("make", "ops", 1, list(GROUP)), ("make", "ops", 10 ** 12, TOPIC)]
        for who in [*NO_NAMES, -1, 5, 10 ** 20, (0,)]:
            if type(who) is not int or who not in (0, 1, 2, 3, 4):
                acts.extend([("tick", who), ("rise", who), ("fall", who, ()), ("cut", who, None, ())])
        for count in [*NO_INTEGERS, -1, 10 ** 15, 10 ** 20]:
            acts.extend([("carry", count), ("lose", count), ("double", count), ("fall", 0, (count,)),
                         ("fall", 0, [1, count]),
                         ("cut", 0, None, (1, count))])
            if count is not None:
                acts.append(("cut", 0, count, ()))
        for keeps in NO_LISTS:
            acts.extend([("fall", 0, keeps), ("cut", "bob", 1, keeps)])
        for name in [*NO_NAMES, 0, 3]:
            acts.append(("send", name, (ITEM,)))
        for items in [*STRANGE, 0, "", "x", (), (ITEM,) * 5, [ITEM], ITEM, (ITEM[:5],), (list(ITEM),), (ITEM, 1)]:
            acts.append(("send", "ann", items))
        return acts + [letter for letter in FALSE_LETTERS if type(letter) is tuple and letter[:1] == ("make",)]

    def test_raises(self):
        for act in self.wrong():
            self.assert_given(InvalidAct, act, act_line, act)
        self.assert_given(InvalidAct, ("carry", -1), act_line, act=("carry", -1))

    def test_of_some_world(self):
        """Whoever is there: every name and every number from 0 to 4 is that of some world."""
        for act in (("tick", 4), ("rise", "nobody"), ("send", "nobody", (ITEM,)), ("make", "ann", 1, TOPIC)):
            self.assertEqual(read_act(act_line(act)), act)


class NoLines(Case):
    """[182]: what is no act line."""

    def test_other_values(self):
        for value in [*STRANGE, 0, 1, (), ("tick", 0), ["tick 0"], b"tick 0", nest(1000)]:
            self.assert_given(InvalidText, value, read_act, value)
            self.assert_given(InvalidText, value, read_act, text=value)

    def test_texts(self):
        for text in [
                "", " ", "tick", "tick ", " tick 0", "tick 0 ", "tick  0", "tick 5", "tick -1", "tick 00", "tick 01",
                "tick Bob", "tick abcdefghi", "tick 0 1", "tick 0\n", "\ntick 0", "tick\t0", "tick 0.", "tick b0",
                "Tick 0", "tick -", 'tick "bob"', "tick(0)", "calm 1", "run 0", "carry", "carry -1", "carry 03",
                "carry +3", "carry 3 4", "carry bob", "carry -", "carry 1e3", "carry " + "1" * 16,
                "carry 0" + "1" * 14, "lose", "double x", "fall", "fall 0 x", "fall 0 -", "fall 0 -1", "fall 0 00",
                "fall 5", "fall 0 1,2", "fall 0 1, 2", "fall 0 (1)", "fall 0 " + "9" * 16, "cut", "cut 0", "cut 0 x",
                "cut 0 - -", "cut 0 -1", "cut 0 --", "cut 0 1 01", "cut - 0", "cut 0 ~", "cut 7 - 1",
                "cut 0 " + "1" * 16, "rise", "rise 9", "rise bob eve", "send", "send ann", "send ann ",
                'send 0 jobs k "x" 0 0 0', 'send Ann jobs k "x" 0 0 0', 'send ann jobs k "x" 0 0',
                'send ann jobs k "x" 0 0 0 0', 'send ann jobs k "x" 0 0 0,', 'send ann jobs k "x" 0 0 0 ',
                'send ann jobs k "x" 0 0 0, ', 'send ann jobs k "x" 0 0 0 a b "y" 0 0 0',
                'send ann jobs k "x" 0 0 0,a b "y" 0 0 0', 'send ann jobs k "x" 0 0 0 , a b "y" 0 0 0',
                'send ann jobs k "x" 0 0 0,, a b "y" 0 0 0', 'send ann jobs k "x" 0 0 0, a b "y" 0 0 0,',
                'send ann jobs k "x" 0, 0 0', 'send ann jobs k x 0 0 0', "send ann jobs k 'x' 0 0 0",
                'send ann jobs k "x 0 0 0', 'send ann jobs k x" 0 0 0', 'send ann jobs k "x"" 0 0 0',
                'send ann jobs k "\\x" 0 0 0', 'send ann jobs k "\\" 0 0 0', 'send ann jobs k 5 0 0 0',
                'send ann jobs k ~ 0 0 0', 'send ann jobs k () 0 0 0', 'send ann jobs k "x" 4 0 0',
                'send ann jobs k "x" 0 51 0', 'send ann jobs k "x" 0 0 51', 'send ann jobs k "x" 0 0 00',
                'send ann jobs k "x" -1 0 0', 'send ann jobs k "x" 03 0 0', 'send ann Jobs k "x" 0 0 0',
                'send ann jobs "k" "x" 0 0 0', 'send ann "jobs" k "x" 0 0 0', 'send ann jobs  "x" 0 0 0',
                f'send ann jobs k "{"x" * 41}" 0 0 0', 'send ann jobs k "x\n" 0 0 0', 'send ann (jobs k "x" 0 0 0)',
                "send ann " + ", ".join(['jobs k "x" 0 0 0'] * 5), "make", "make ops", "make ops 1",
                "make ops 1 topic", "make ops 1 group crew", "make ops 0 topic jobs", "make ops 01 topic jobs",
                "make ops x topic jobs", "make 0 1 topic jobs", "make Ops 1 topic jobs",
                "make ops 1 topic jobs first", "make ops 1 topic jobs !", "make ops 1 topic jobs last last",
                "make ops 1 topic jobs ", "make ops 1 Topic jobs", "make ops 1 topic 0",
                "make ops 1000000000000 topic jobs", "make ops 1 group crew jobs jobs",
                "make ops 1 group crew jobs -", "make ops 1 group crew jobs dead more",
                "make ops 1 group crew jobs ~", "make ops 1 now 4", "make ops 1 send ann", "make ops 1 topic jobs 1",
                'make ops 1 topic "jobs"', "want bob 1 crew", "tick 0\ntick 1", "tick 0;"]:
            self.assert_given(InvalidText, text, read_act, text)

    def test_one_sign_away(self):
        """Each text that is one sign away from an act line is the line of another act, or of none."""
        lines = {}
        for _, text in LINES:
            if len(text) < 60:
                near = [text[:at] + text[at + 1:] for at in range(len(text))]
                for sign in ' 0159,"\\-abx\n(':
                    near.extend([text[:at] + sign + text[at + more:] for at in range(len(text) + 1) for more in (0, 1)])
                for other in near:
                    self.check_near(other, lines)
        self.assertGreater(len(lines), 300)

    def check_near(self, text, lines):
        try:
            act = read_act(text)
        except InvalidText as error:
            self.assertIs(error.given, text)
            return
        self.assertEqual(act_line(act), text)
        self.assertEqual(lines.setdefault(repr(act), text), text)


if __name__ == "__main__":
    import unittest
    unittest.main()
