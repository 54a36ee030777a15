"""Points [3] to [7] and [61] to [65]: who is next."""

import copy
import random
import unittest

from inorderonce.errors import InvalidCommand, InvalidNumber, InvalidState, NoGroup
from inorderonce.meaning import State, fold
from inorderonce.pictures import picture, state_of
from inorderonce.turns import Turns, eligible
from tests.support import NO_INTEGERS, NO_LISTS, NO_NAMES, STRANGE, Case, any_command, nest

ITEMS = (("jobs", "k", "one", 0, 0, 0), ("jobs", "k", "two", 3, 0, 0), ("jobs", "m", "six", 1, 0, 0),
         ("jobs", "n", "late", 3, 4, 0))
ROWS = [("topic", "jobs", True), ("group", "crew", "jobs", None), ("group", "idle", "jobs", None),
        ("send", "ann", 1, ITEMS)]
NO_STATES = [*[value for value in STRANGE if value is not None], 0, 1, "", "crew", (), State, picture(State()),
             nest(100000)]
NO_GROUPS = [*NO_NAMES, "none", "jobs", "ann", "cre", nest(1000), nest(100000), 10 ** 5000]
NO_PASSED = [*NO_LISTS, [True], [False], [1, True], (None,), [1.0], ["1"], [[1]], [()], ((1,),), [0, None], nest(2),
             nest(100000), [1, 2, "x"]]


def plain_eligible(state, group):
    """What [61] tells, by its words."""
    found = []
    for number in state.waiting(group):
        _, _, key, _, priority, since, _, _ = state.message(number)
        elder = [other for other in state.waiting(group) if other < number and state.message(other)[2] == key]
        if not elder and since <= state.now:
            found.append((3 - priority, number))
    return [number for _, number in sorted(found)]


class Eligible(Case):
    """[61]: the plain function."""

    def test_ordinary(self):
        state = fold(ROWS)
        self.assertEqual(eligible(state, "crew"), [3, 1])
        self.assertEqual(eligible(group="crew", state=state), [3, 1])
        self.assertEqual(eligible(fold([*ROWS, ("now", 3)]), "crew"), [3, 1])
        self.assertEqual(eligible(fold([*ROWS, ("now", 4)]), "crew"), [4, 3, 1])
        self.assertEqual(eligible(fold([*ROWS, ("done", "crew", 1, (1, 1), ())]), "crew"), [2, 3])
        self.assertEqual(eligible(fold(ROWS[:2]), "crew"), [])

    def test_one_that_is_held_back_holds_back_the_later_ones(self):
        items = (("jobs", "k", "a", 0, 2, 0), ("jobs", "k", "b", 3, 0, 0), ("jobs", "m", "c", 0, 0, 0))
        state = fold([*ROWS[:2], ("send", "ann", 1, items)])
        self.assertEqual(eligible(state, "crew"), [3])
        state.apply(("now", 1))
        self.assertEqual(eligible(state, "crew"), [3])
        state.apply(("now", 2))
        self.assertEqual(eligible(state, "crew"), [1, 3])

    def test_order(self):
        """Greater priority ahead, then the lesser id."""
        items = [("jobs", key, "", priority, 0, 0) for key, priority in zip("abcdefgh", [1, 3, 0, 2, 3, 1, 0, 2])]
        state = fold([*ROWS[:2], ("send", "ann", 1, tuple(items[:4])), ("send", "ann", 2, tuple(items[4:]))])
        self.assertEqual(eligible(state, "crew"), [2, 5, 4, 8, 1, 6, 3, 7])

    def test_tries_are_of_no_account(self):
        state = fold([*ROWS, ("failed", "crew", 3, 0), ("failed", "crew", 3, 1)])
        self.assertEqual(eligible(state, "crew"), [3, 1])

    def test_wrong(self):
        state = fold(ROWS)
        before = state.copy()
        for at, value in enumerate([*NO_STATES, None, Turns()]):
            with self.subTest(at=at):
                for group in ("crew", "none", None, []):
                    self.assert_given(InvalidState, value, eligible, value, group)
                    self.assert_given(InvalidState, value, eligible, group=group, state=value)
        for at, group in enumerate(NO_GROUPS):
            with self.subTest(at=at):
                self.assert_tells(NoGroup, {"group": group}, eligible, state, group)
                self.assert_tells(NoGroup, {"group": group}, eligible, group=group, state=state)
        self.assertEqual(state, before)

    def test_what_is_returned(self):
        state = fold(ROWS)
        eligible(state, "crew").clear()
        self.assertEqual(eligible(state, "crew"), [3, 1])


class Held(Case):
    """[62] to [64]: Turns."""

    def test_made(self):
        for turns in (Turns(), Turns(None), Turns(state=None), Turns(State()), Turns(state=State())):
            self.assertEqual(turns.state(), State())
        self.assertEqual(Turns(fold(ROWS)).state(), fold(ROWS))

    def test_wrong_state(self):
        for at, value in enumerate([*NO_STATES, Turns()]):
            with self.subTest(at=at):
                self.assert_given(InvalidState, value, Turns, value)
                self.assert_given(InvalidState, value, Turns, state=value)

    def test_takes_a_copy(self):
        state = fold(ROWS)
        turns = Turns(state)
        self.assertEqual(turns.eligible("crew"), [3, 1])
        state.apply(("done", "crew", 1, (1, 1), ()))
        turns.state().apply(("done", "crew", 3, (1, 1), ()))
        self.assertEqual([turns.state(), turns.eligible("crew"), turns.rank("crew", 3)], [fold(ROWS), [3, 1], 0])
        told = turns.state()
        turns.apply(("done", "crew", 1, (1, 1), ()))
        self.assertEqual([told, turns.state()], [fold(ROWS), state])
        self.assertIsNot(turns.state(), turns.state())

    def test_apply(self):
        turns = Turns()
        for command in ROWS:
            self.assertIs(turns.apply(command), True)
            self.assertIs(turns.apply(command=command), False)
        self.assertEqual(turns.state(), fold(ROWS))
        for at, command in enumerate([*STRANGE, (), ("now", -1), ("now", True), ["now", 1], ("later", 1),
                                      nest(100000)]):
            with self.subTest(at=at):
                self.assert_given(InvalidCommand, command, turns.apply, command)
                self.assertEqual([turns.state(), turns.eligible("crew")], [fold(ROWS), [3, 1]])

    def test_ordinary(self):
        turns = Turns(fold(ROWS))
        self.assertEqual([turns.eligible("crew"), turns.eligible(group="crew")], [[3, 1], [3, 1]])
        self.assertEqual(turns.by_key("crew"), [("k", (1, 2)), ("m", (3,)), ("n", (4,))])
        self.assertEqual(turns.by_key(group="idle"), [("k", (1, 2)), ("m", (3,)), ("n", (4,))])
        turns.apply(("done", "crew", 3, (1, 1), ()))
        self.assertEqual([turns.by_key("crew"), turns.by_key("idle")[1]], [[("k", (1, 2)), ("n", (4,))], ("m", (3,))])
        self.assertEqual([turns.eligible("crew"), turns.eligible("idle")], [[1], [3, 1]])

    def test_first(self):
        turns = Turns(fold([*ROWS, ("now", 4)]))
        for passed, wanted in [([], 4), ((), 4), ([4], 3), ((3,), 4), ([3, 4], 1), ([4, 3], 1), ([1, 3, 4], None),
                               ([2], 4), ([0, -1, 99], 4),
                               ([4, 4, 4], 3), ([10 ** 30, 4, 1], 3), (list(range(400)), None)]:
            with self.subTest(passed=passed):
                before = copy.copy(passed)
                self.assertEqual(turns.first("crew", passed), wanted)
                self.assertEqual(turns.first(passed=passed, group="crew"), wanted)
                self.assertEqual(passed, before)
        self.assertIsNone(Turns(fold(ROWS[:2])).first("crew", []))

    def test_rank(self):
        turns = Turns(fold([*ROWS, ("now", 4)]))
        self.assertEqual([turns.rank("crew", number) for number in range(-1, 6)], [None, None, 2, None, 1, 0, None])
        self.assertEqual(turns.rank(number=3, group="crew"), 1)
        for at, value in enumerate([*NO_INTEGERS, "1", "k", (1,), nest(1000), nest(100000), 10 ** 5000]):
            with self.subTest(at=at):
                self.assertIsNone(turns.rank("crew", value))

    def test_no_group(self):
        turns = Turns(fold(ROWS))
        before = turns.state()
        for at, group in enumerate(NO_GROUPS):
            with self.subTest(at=at):
                for call, *places in [(turns.eligible,), (turns.by_key,), (turns.rank, 1), (turns.rank, None),
                                      (turns.rank, []),
                                      (turns.first, []), (turns.first, None), (turns.first, [True])]:
                    self.assert_tells(NoGroup, {"group": group}, call, group, *places)
                self.assert_tells(NoGroup, {"group": group}, turns.eligible, group=group)
                self.assert_tells(NoGroup, {"group": group}, turns.first, passed=3, group=group)
        self.assertEqual(turns.state(), before)

    def test_wrong_passed(self):
        turns = Turns(fold(ROWS))
        for at, passed in enumerate(NO_PASSED):
            with self.subTest(at=at):
                for group in ("crew", "idle"):
                    self.assert_given(InvalidNumber, passed, turns.first, group, passed)
                    self.assert_given(InvalidNumber, passed, turns.first, passed=passed, group=group)
        self.assertEqual([turns.state(), turns.eligible("crew")], [fold(ROWS), [3, 1]])

    def test_what_is_returned(self):
        """[3]: lists that were told and then changed are told as before."""
        turns = Turns(fold(ROWS))
        for _ in range(2):
            self.assertEqual([turns.eligible("crew"), turns.first("crew", []), turns.rank("crew", 1)], [[3, 1], 3, 1])
            self.assertEqual(turns.by_key("crew"), [("k", (1, 2)), ("m", (3,)), ("n", (4,))])
            turns.eligible("crew").reverse()
            turns.eligible("crew").clear()
            turns.by_key("crew").clear()
        self.assertIs(type(turns.by_key("crew")[0][1]), tuple)

    def test_behind_what_does_not_count(self):
        """What a picture holds is settled behind the first command, also behind one that doesn't count."""
        messages = tuple([(number, "jobs", "k", "", 0, 0, 7 * (number < 3), ("ann", 1)) for number in range(1, 4)])
        state = state_of((7, 4, (("jobs", False),), (("crew", "jobs", None, 0, 0, ((1, 0), (2, 0), (3, 0))),),
                          messages, ()))
        turns = Turns(state)
        self.assertEqual([turns.eligible("crew"), turns.by_key("crew")], [[1], [("k", (1, 2, 3))]])
        self.assertIs(turns.apply(("now", 0)), False)
        self.assertEqual([turns.eligible("crew"), turns.by_key("crew"), turns.rank("crew", 1)],
                         [[3], [("k", (3,))], None])


class Runs(Case):
    """[65]: runs of many commands, held against the plain function and a plain account."""

    def check(self, turns, state):
        self.assertEqual(turns.state(), state)
        for group, _, _ in state.groups():
            wanted = plain_eligible(state, group)
            self.assertEqual([eligible(state, group), turns.eligible(group)], [wanted, wanted])
            self.assertEqual([turns.rank(group, number) for number in wanted], list(range(len(wanted))))
            others = [number for number in range(-1, state.next + 2) if number not in wanted]
            self.assertEqual({turns.rank(group, number) for number in others}, {None})
            for most in range(len(wanted)):
                self.assertEqual(turns.first(group, wanted[:most]), wanted[most])
            self.assertIsNone(turns.first(group, tuple(wanted) + (99,)))
            keys = sorted({state.message(number)[2] for number in state.waiting(group)})
            self.assertEqual(turns.by_key(group), [(key, tuple([number for number in state.waiting(group)
                                                                if state.message(number)[2] == key])) for key in keys])
            self.assertEqual([numbers[0] for _, numbers in turns.by_key(group)],
                             [state.first(group, key) for key in keys])

    def test_runs(self):
        for seed in range(40):
            source = random.Random(seed)
            state, turns = State(), Turns()
            for _ in range(60):
                command = any_command(source, state)
                self.assertIs(turns.apply(command), state.apply(command))
                if source.random() < 0.7:
                    self.check(turns, state)
            self.check(Turns(state), state)

    def test_runs_of_pictures(self):
        """[62]: whatever state is passed, also one in which something is overdue."""
        for seed in range(40):
            source = random.Random(seed)
            state = State()
            for _ in range(40):
                state.apply(any_command(source, state))
            now, *rest = picture(state)
            state = state_of((now + source.choice([0, 2, 30]), *rest))
            turns = Turns(state)
            self.check(turns, state)
            for _ in range(20):
                command = any_command(source, state)
                self.assertIs(turns.apply(command), state.apply(command))
                self.check(turns, state)


if __name__ == "__main__":
    unittest.main()
