"""Points [3] to [7] and [111] to [114]: leases."""

import random
import unittest

from inorderonce.errors import Held, InvalidCount, InvalidName, InvalidNumber
from inorderonce.leases import Leases
from tests.support import NO_COUNTS, NO_INTEGERS, NO_NAMES, STRANGE, Case, nest

ODD = [nest(1000), nest(100000), 10 ** 5000]
NO_TOKENS = [*STRANGE, 0, 1, "", "token", (), (1,), (0, 1), (1, 0), (-1, 1), (True, 1), (1, True), (1.0, 1), (1, 1, 1),
             [1, 1], (10 ** 12, 1),
             (1, 10 ** 12), ("1", 1), (None, 1), *ODD]
NAMES = ["member", "group", "number", "token", "end"]
GOOD = ["bob", "crew", 4, (2, 1), 9]
WRONG = [(InvalidName, [*NO_NAMES, *ODD]), (InvalidName, [*NO_NAMES, *ODD]),
         (InvalidNumber, [*NO_INTEGERS, 0, -1, nest(100000)]),
         (InvalidNumber, NO_TOKENS), (InvalidCount, [*NO_COUNTS, nest(100000)])]


def sample():
    """Three leases for one group, and one for another."""
    leases = Leases()
    leases.give("bob", "crew", 4, (2, 1), 9)
    leases.give("eve", "crew", 2, (2, 2), 12)
    leases.give("bob", "gang", 4, (2, 3), 9)
    leases.give("ann", "crew", 10, (3, 1), 0)
    return leases


LISTED = [("crew", 2, "eve", (2, 2), 12), ("crew", 4, "bob", (2, 1), 9), ("crew", 10, "ann", (3, 1), 0),
          ("gang", 4, "bob", (2, 3), 9)]


class Give(Case):
    """[111]."""

    def test_ordinary(self):
        leases = Leases()
        self.assertEqual(leases.listed(), [])
        self.assertIsNone(leases.give(*GOOD))
        self.assertEqual(leases.listed(), [("crew", 4, "bob", (2, 1), 9)])
        self.assertIsNone(leases.give(**dict(zip(NAMES, ["eve", "crew", 5, (2, 1), 0]))))
        self.assertEqual(leases.listed(), [("crew", 4, "bob", (2, 1), 9), ("crew", 5, "eve", (2, 1), 0)])
        self.assertEqual(sample().listed(), LISTED)

    def test_great_numbers(self):
        """A number of a message and an end of whatever size, but a token of at most 12 digits."""
        leases = Leases()
        leases.give("bob", "crew", 10 ** 20, (10 ** 12 - 1, 10 ** 12 - 1), 10 ** 20)
        leases.give("eve", "crew", 1, (1, 1), 0)
        self.assertEqual(leases.listed()[1], ("crew", 10 ** 20, "bob", (10 ** 12 - 1, 10 ** 12 - 1), 10 ** 20))

    def test_wrong(self):
        """Each wrong value in each place; with several at once the first one is told, ahead of Held."""
        for leases in (Leases(), sample()):
            before = leases.listed()
            for place, (kind, worths) in enumerate(WRONG):
                for at, worth in enumerate(worths):
                    with self.subTest(place=NAMES[place], at=at):
                        values = list(GOOD)
                        values[place] = worth
                        self.assert_given(kind, worth, leases.give, *values)
                        self.assert_given(kind, worth, leases.give, **dict(zip(NAMES, values)))
                        values[place + 1:] = ["", -1, [], -1][place:]
                        self.assert_given(kind, worth, leases.give, *values)
            self.assertEqual(leases.listed(), before)

    def test_held(self):
        leases = sample()
        for member, group, number, told in [
            ("zed", "crew", 4, 4), ("bob", "crew", 4, 4), ("eve", "crew", 4, 4), ("bob", "crew", 5, 4),
            ("eve", "crew", 7, 2), ("ann", "crew", 11, 10),
            ("eve", "gang", 4, 4), ("bob", "gang", 2, 4), ("bob", "crew", 2, 2), ("bob", "crew", 10, 10),
        ]:
            with self.subTest(member=member, group=group, number=number):
                with self.assertRaises(Held) as caught:
                    leases.give(member, group, number, (9, 9), 99)
                self.assertEqual(vars(caught.exception), {"group": group, "number": told})
                self.assertEqual(leases.listed(), LISTED)
        leases.give("eve", "gang", 2, (9, 9), 99)
        leases.give("zed", "crew", 5, (2, 1), 99)
        self.assertEqual(len(leases.listed()), 6)

    def test_held_tells_the_very_values(self):
        leases = sample()
        group, number = "".join(["cr", "ew"]), int("4" + "0" * 10)
        leases.give("zed", "crew", 4 * 10 ** 10, (9, 9), 9)
        self.assert_tells(Held, {"group": group, "number": number}, leases.give, "zed", group, number, (9, 9), 9)


class Told(Case):
    """[112]."""

    def test_of(self):
        leases = sample()
        self.assertEqual([leases.of("bob", "crew"), leases.of("bob", "gang"), leases.of(group="crew", member="ann")],
                         [(4, (2, 1)), (4, (2, 3)), (10, (3, 1))])
        self.assertEqual([leases.of("eve", "gang"), leases.of("crew", "bob"), leases.of("zed", "crew"),
                          leases.of("bob", "club")], [None] * 4)
        for at, value in enumerate([*NO_NAMES, *ODD]):
            with self.subTest(at=at):
                self.assertEqual([leases.of(value, "crew"), leases.of("bob", value), leases.of(value, value)],
                                 [None] * 3)

    def test_holder(self):
        leases = sample()
        self.assertEqual([leases.holder("crew", 2), leases.holder("gang", 4), leases.holder(number=4, group="crew")],
                         [("eve", (2, 2)), ("bob", (2, 3)), ("bob", (2, 1))])
        self.assertEqual([leases.holder("crew", 3), leases.holder("gang", 2), leases.holder("club", 4),
                          leases.holder("bob", 4)], [None] * 4)
        for at, value in enumerate([*NO_NAMES, *NO_INTEGERS, 0, -4, *ODD]):
            with self.subTest(at=at):
                self.assertEqual([leases.holder(value, 4), leases.holder("crew", value), leases.holder(value, value)],
                                 [None] * 3)

    def test_true_is_no_number(self):
        leases = Leases()
        leases.give("bob", "crew", 1, (1, 1), 3)
        for value in (True, 1.0):
            self.assertIsNone(leases.holder("crew", value))
            self.assertIs(leases.drop("crew", value), False)
        self.assertEqual(leases.holder("crew", 1), ("bob", (1, 1)))

    def test_held(self):
        leases = sample()
        self.assertEqual([leases.held("crew"), leases.held(group="gang"), leases.held("club")], [[2, 4, 10], [4], []])
        for at, value in enumerate([*NO_NAMES, *ODD]):
            with self.subTest(at=at):
                self.assertEqual(leases.held(value), [])

    def test_what_is_returned(self):
        leases = sample()
        for told in (leases.held("crew"), leases.ended(99), leases.listed()):
            told.clear()
        self.assertEqual([leases.held("crew"), len(leases.ended(99)), leases.listed()], [[2, 4, 10], 4, LISTED])


class Ended(Case):
    """[113]."""

    def test_drop(self):
        leases = sample()
        for group, number, wanted in [("crew", 3, False), ("club", 4, False), ("crew", 4, True), ("crew", 4, False),
                                      ("gang", 4, True), ("bob", 4, False)]:
            with self.subTest(group=group, number=number):
                self.assertIs(leases.drop(group, number), wanted)
        self.assertEqual(leases.listed(), [LISTED[0], LISTED[2]])
        self.assertEqual([leases.of("bob", "crew"), leases.holder("crew", 4)], [None, None])
        leases.give("bob", "crew", 5, (2, 9), 1)
        leases.give("zed", "crew", 4, (2, 9), 1)
        self.assertIs(leases.drop(number=5, group="crew"), True)
        for at, value in enumerate([*NO_NAMES, *NO_INTEGERS, 0, -4, *ODD]):
            with self.subTest(at=at):
                self.assertEqual([leases.drop(value, 4), leases.drop("crew", value), leases.drop(value, value)],
                                 [False] * 3)
        self.assertEqual(leases.held("crew"), [2, 4, 10])

    def test_ended(self):
        """An end that is just reached, and one that is not yet; what ended is held on."""
        leases = sample()
        for time, wanted in [(0, [("crew", 10)]), (8, [("crew", 10)]), (9, [("crew", 4), ("crew", 10), ("gang", 4)]),
                             (11, [("crew", 4), ("crew", 10), ("gang", 4)]),
                             (12, [("crew", 2), ("crew", 4), ("crew", 10), ("gang", 4)]),
                             (10 ** 30, [("crew", 2), ("crew", 4), ("crew", 10), ("gang", 4)])]:
            with self.subTest(time=time):
                self.assertEqual(leases.ended(time), wanted)
                self.assertEqual(leases.ended(time=time), wanted)
                self.assertEqual(leases.listed(), LISTED)
        self.assertEqual(Leases().ended(9), [])

    def test_wrong_time(self):
        for leases in (Leases(), sample()):
            for at, time in enumerate([*NO_COUNTS, nest(100000)]):
                with self.subTest(at=at):
                    self.assert_given(InvalidCount, time, leases.ended, time)
                    self.assert_given(InvalidCount, time, leases.ended, time=time)


class Runs(Case):
    """[111] to [114]: runs, held against a plain list of leases."""

    def test_runs(self):
        for seed in range(40):
            source = random.Random(seed)
            leases, plain = Leases(), []
            for at in range(120):
                member, group, number = source.choice("abcd"), source.choice("gh"), source.randrange(1, 6)
                end = source.randrange(20)
                if source.random() < 0.6:
                    held = [row for row in plain if row[:2] == (group, number)] + [row for row in plain
                        if row[0] == group and row[2] == member]
                    if held:
                        with self.assertRaises(Held) as caught:
                            leases.give(member, group, number, (1, at + 1), end)
                        self.assertEqual(vars(caught.exception), {"group": group, "number": held[0][1]})
                    else:
                        self.assertIsNone(leases.give(member, group, number, (1, at + 1), end))
                        plain.append((group, number, member, (1, at + 1), end))
                else:
                    self.assertIs(leases.drop(group, number), any([row[:2] == (group, number) for row in plain]))
                    plain = [row for row in plain if row[:2] != (group, number)]
                self.check(leases, plain)

    def check(self, leases, plain):
        self.assertEqual(leases.listed(), sorted(plain))
        for time in (0, 7, 19):
            self.assertEqual(leases.ended(time), sorted([row[:2] for row in plain if row[4] <= time]))
        for group in "gh":
            self.assertEqual(leases.held(group), sorted([row[1] for row in plain if row[0] == group]))
            for member in "abcd":
                found = [(row[1], row[3]) for row in plain if (row[0], row[2]) == (group, member)]
                self.assertLess(len(found), 2)
                self.assertEqual(leases.of(member, group), found[0] if found else None)
            for number in range(7):
                found = [(row[2], row[3]) for row in plain if row[:2] == (group, number)]
                self.assertLess(len(found), 2)
                self.assertEqual(leases.holder(group, number), found[0] if found else None)


if __name__ == "__main__":
    unittest.main()
