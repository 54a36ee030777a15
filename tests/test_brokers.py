"""Points [3] to [7] and [121] to [126]: one broker at a time. What several of them do together is in test_runs."""

import unittest

from inorderonce.brokers import Broker
from inorderonce.disks import Disk
from inorderonce.errors import (
    InvalidBrokers, InvalidDisk, InvalidLetter, InvalidNumber, InvalidPicture, NoRow, PowerCut,
)
from inorderonce.lines import line
from inorderonce.logs import log_meaning
from inorderonce.meaning import State, fold
from inorderonce.pictures import picture, text_of
from tests.support import FALSE_LETTERS, NO_BROKERS, NO_DISKS, NO_INTEGERS, Case, files_of, lay

ITEM = ("jobs", "k", "one", 0, 0, 0)
OTHER = ("jobs", "m", "two", 2, 0, 0)
MADE = [("topic", "jobs", False), ("topic", "dead", False), ("group", "crew", "jobs", "dead")]
SENT = [*MADE, ("send", "ann", 1, (ITEM, OTHER, ("jobs", "k", "three", 3, 0, 0)))]
GREATEST = 999999999999
ATTRIBUTES = ("role", "leader", "term", "taken", "base", "applied")


class Seen(Broker):
    """A broker whose disk a test looks at."""

    def __init__(self, number, brokers, disk):
        super().__init__(number=number, brokers=brokers, disk=disk)
        self.disk = disk


def rows_of(commands, term=1):
    """Rows of these commands, all of one term."""
    return [(term, command) for command in commands]


def leader(commands=(), brokers=1, term=1, base=None):
    """Broker 0, which just became leader behind rows of these commands; all of them taken if it is alone."""
    broker = Seen(0, brokers, lay(rows_of(commands, term), term, 0, base))
    for _ in range(7):
        broker.tick()
    for voter in range(1, brokers // 2 + 1):
        broker.take(("vote", broker.term, voter, True))
    broker.fresh()
    return broker


def take_all(broker):
    """Have a leader of three take all its rows; return what it sends for that."""
    return broker.take(("got", broker.term, 1, True, broker.last()[0]))


def ticks(broker, many):
    """So many ticks; return the letters of the last one."""
    letters = []
    for _ in range(many):
        letters = broker.tick()
    return letters


def to_clients(letters):
    return [pair for pair in letters if isinstance(pair[0], str)]


def told_by(broker):
    """All that a broker tells, but for fresh(), and all that lies on its disk."""
    rows = [broker.row(index) for index in range(broker.base + 1, broker.last()[0] + 1)]
    attributes = [getattr(broker, name) for name in ATTRIBUTES]
    return attributes, broker.last(), rows, picture(broker.state()), broker.leases(), files_of(broker.disk)


class BrokerCase(Case):
    """A test case that looks at brokers."""

    def check(self, broker, **wanted):
        self.assertEqual({name: getattr(broker, name) for name in wanted}, wanted)

    def quiet(self, broker, letter, letters):
        """The broker takes the letter and sends these; nothing else is changed, and no call is made on the disk."""
        broker.fresh()
        before = told_by(broker)
        self.assertEqual(broker.take(letter), letters)
        self.assertEqual(told_by(broker), before)
        self.assertEqual(broker.fresh(), [])

    def behind(self, broker, index):
        """The commands of the rows behind an index."""
        return [broker.row(place)[1] for place in range(index + 1, broker.last()[0] + 1)]


class Made(BrokerCase):
    """[121]: brokers as they are at first."""

    def test_at_first(self):
        for brokers in (1, 3, 5):
            for number in range(brokers):
                disk = Disk()
                disk.arm(0)
                broker = Broker(number=number, brokers=brokers, disk=disk)
                self.check(broker, role="follows", leader=None, term=0, taken=0, base=0, applied=0)
                self.assertEqual([name for name in ATTRIBUTES if name not in vars(broker)], [])
                self.assertEqual([broker.last(), broker.state(), broker.leases(), broker.fresh(), disk.ops()],
                                 [(0, 0), State(), [], [], 0])

    def test_on_a_log(self):
        """What the log has behind the base is not taken yet; the state is that of the base's picture."""
        state = fold(SENT)
        disk = lay(rows_of([("now", 8), ("now", 9)], 3), 3, 1, (4, 2, picture(state)))
        before = files_of(disk)
        disk.arm(0)
        broker = Broker(1, 3, disk)
        self.check(broker, role="follows", leader=None, term=3, taken=4, base=4, applied=4)
        self.assertEqual([broker.last(), broker.row(6), broker.row(index=5)],
                         [(6, 3), (3, ("now", 9)), (3, ("now", 8))])
        self.assertEqual([broker.state(), broker.fresh(), files_of(disk)], [state, [], before])
        self.assertEqual(Broker(1, 3, lay(rows_of(SENT), 1)).state(), State())
        for index in (*NO_INTEGERS, 4, 7, -1):
            self.assert_tells(NoRow, {"index": index}, broker.row, index)

    def test_state_is_a_copy(self):
        broker = leader(SENT)
        state = broker.state()
        state.apply(("topic", "more", True))
        self.assertEqual(broker.state().topics(), [("dead", False), ("jobs", False)])
        broker.leases().append(1)
        broker.fresh().append(1)
        self.assertEqual([broker.leases(), broker.fresh()], [[], []])

    def test_raises(self):
        disk = Disk()
        for brokers in NO_BROKERS:
            self.assert_given(InvalidBrokers, brokers, Broker, -1, brokers, None)
            self.assert_given(InvalidBrokers, brokers, Broker, disk=disk, brokers=brokers, number=0)
        for brokers in (1, 3, 5):
            for number in (*NO_INTEGERS, -1, brokers, 5, 10 ** 20):
                self.assert_given(InvalidNumber, number, Broker, number, brokers, None)
        for value in NO_DISKS:
            self.assert_given(InvalidDisk, value, Broker, 0, 1, value)
        self.assertEqual(files_of(disk), ([], 0))

    def test_raises_for_a_base_of_no_state(self):
        good = picture(fold(SENT))
        for value in [None, True, 7, "p", (), good[:5], (*good, ()), (-1, *good[1:]), (0, 0, *good[2:]), line(good),
                      (0, 1, (("b", True), ("a", True)), (), (), ()), (10 ** 12, *good[1:])]:
            disk = lay([], 2, 0, (3, 2, value))
            before = files_of(disk)
            with self.assertRaises(InvalidPicture) as caught:
                Broker(0, 1, disk)
            self.assertIs(type(caught.exception), InvalidPicture)
            self.assertEqual([caught.exception.given, files_of(disk)], [value, before])
            self.assert_given(InvalidNumber, 1, Broker, 1, 1, disk)
        self.check(Broker(0, 1, lay([], 2, 0, (3, 2, (GREATEST, *good[1:])))), applied=3)

    def test_a_broker_is_not_equal_to_another(self):
        self.assertNotEqual(Broker(0, 1, Disk()), Broker(0, 1, Disk()))


class Asking(BrokerCase):
    """[121], [122]: the node's part of a broker."""

    def test_attributes_are_those_of_the_node(self):
        broker = Seen(0, 3, lay(rows_of(MADE, 2), 2, 1))
        self.assertEqual(ticks(broker, 6), [])
        self.check(broker, role="follows", leader=None, term=2)
        self.assertEqual(broker.tick(), [(1, ("ask", 3, 0, 3, 2)), (2, ("ask", 3, 0, 3, 2))])
        self.check(broker, role="asks", leader=None, term=3, taken=0, base=0, applied=0)
        letters = broker.take(("vote", 3, 2, True))
        rows = ((3, ("now", 0)),)
        self.assertEqual(letters, [(1, ("rows", 3, 0, 3, 2, rows, 0)), (2, ("rows", 3, 0, 3, 2, rows, 0))])
        self.check(broker, role="leads", leader=0, term=3, taken=0, applied=0)
        self.assertEqual(broker.take(("got", 3, 2, True, 4)), [])
        self.check(broker, role="leads", taken=4, applied=4)
        self.assertEqual(broker.state(), fold(MADE))
        self.assertEqual(broker.take(("ask", 4, 1, 9, 9)), [(1, ("vote", 4, 0, True))])
        self.check(broker, role="follows", leader=None, term=4, taken=4, applied=4)
        self.assertEqual(broker.take(("rows", 4, 1, 4, 3, (), 4)), [(1, ("got", 4, 0, True, 4))])
        self.check(broker, role="follows", leader=1, term=4)

    def test_one_alone(self):
        broker = Seen(0, 1, Disk())
        self.assertEqual([ticks(broker, 6), broker.role, broker.tick()], [[], "follows", []])
        self.check(broker, role="leads", leader=0, term=1, taken=1, applied=1)
        self.assertEqual([broker.fresh(), broker.fresh()], [[(1, 1, ("now", 0))], []])

    def test_fresh_tells_each_row_once(self):
        broker = Seen(2, 3, Disk())
        broker.take(("rows", 1, 0, 0, 0, tuple(rows_of(SENT)), 0))
        self.assertEqual(broker.fresh(), [])
        broker.take(("rows", 1, 0, 4, 1, (), 2))
        self.assertEqual(broker.fresh(), [(1, 1, SENT[0]), (2, 1, SENT[1])])
        broker.take(("rows", 1, 0, 4, 1, (), 3))
        broker.take(("rows", 1, 0, 4, 1, ((1, ("now", 5)),), 9))
        self.assertEqual(broker.fresh(), [(3, 1, SENT[2]), (4, 1, SENT[3]), (5, 1, ("now", 5))])
        self.assertEqual([broker.fresh(), broker.applied, broker.taken], [[], 5, 5])
        self.assertEqual(broker.state(), fold([*SENT, ("now", 5)]))


class Catching(BrokerCase):
    """[122]: what each call ends with."""

    def test_a_base_that_is_handed_over(self):
        """State and applied are those of the base; its rows are not told by fresh(), those behind it are."""
        broker = Seen(1, 3, lay(rows_of(MADE), 1, 0))
        broker.take(("rows", 1, 0, 3, 1, (), 2))
        self.assertEqual([broker.applied, len(broker.fresh())], [2, 2])
        state = fold(SENT)
        letter = ("whole", 1, 0, 4, 1, text_of(state))
        self.assertEqual(broker.take(letter), [(0, ("got", 1, 1, True, 4))])
        self.check(broker, role="follows", leader=0, taken=4, base=4, applied=4)
        self.assertEqual([broker.state(), broker.fresh(), broker.last()], [state, [], (4, 1)])
        broker.take(("rows", 1, 0, 4, 1, ((1, ("now", 2)), (1, ("now", 4))), 5))
        self.assertEqual([broker.applied, broker.fresh(), broker.state()],
                         [5, [(5, 1, ("now", 2))], fold([*SENT, ("now", 2)])])
        # Rows that stay behind a base are applied when they are told as taken, not in the call of the base.
        broker = Seen(1, 3, lay([*rows_of(SENT), (1, ("now", 3))], 1, 0))
        broker.take(letter)
        self.assertEqual([broker.applied, broker.last(), broker.fresh()], [4, (5, 1), []])

    def test_a_picture_that_is_not_above_taken(self):
        """It is not kept, whatever it says."""
        broker = Seen(1, 3, lay(rows_of(MADE), 1, 0))
        broker.take(("rows", 1, 0, 3, 1, (), 3))
        before = (picture(broker.state()), files_of(broker.disk))
        self.assertEqual(broker.take(("whole", 1, 0, 3, 1, text_of(State()))), [(0, ("got", 1, 1, True, 3))])
        self.assertEqual((picture(broker.state()), files_of(broker.disk)), before)

    def test_leases_of_what_does_not_wait(self):
        """They are dropped behind the rows of the very call in which it was settled by other means."""
        broker = leader([*MADE, ("send", "ann", 1, (("jobs", "k", "one", 0, 0, 1),))])
        broker.take(("want", "bob", 1, "crew"))
        self.assertEqual(broker.leases(), [("crew", 1, "bob", (2, 1), 8)])
        ticks(broker, 3)
        self.assertEqual(broker.leases(), [("crew", 1, "bob", (2, 1), 8)])
        broker.tick()
        self.assertEqual([broker.state().now, broker.state().counts("crew"), broker.leases()], [4, (0, 1), []])

    def test_leases_and_open_rows_of_one_that_leads_no_more(self):
        for letter in (("ask", 9, 1, 0, 0), ("vote", 9, 1, True), ("got", 9, 1, True, 3), ("rows", 9, 1, 0, 0, (), 0),
                       ("whole", 9, 1, 0, 0, text_of(State()))):
            broker = leader(SENT, 3)
            take_all(broker)
            broker.take(("want", "bob", 1, "crew"))
            broker.take(("done", "bob", 2, "crew", broker.leases()[0][1], (2, 1), ()))
            broker.take(("send", "ann", 2, (ITEM,)))
            self.assertEqual([len(broker.leases()), broker.last()], [1, (7, 2)])
            broker.take(letter)
            self.check(broker, role="follows", term=9)
            self.assertEqual(broker.leases(), [])
            # The rows come as taken from the next leader: nothing is answered for them any more.
            letters = broker.take(("rows", 9, 1, 7, 2, ((9, ("now", 0)),), 8))
            self.assertEqual([letters, broker.applied], [[(1, ("got", 9, 0, True, 8))], 8])
            self.assertEqual([broker.state().counts("crew"), broker.state().producers()], [(1, 0), [("ann", 2)]])

    def test_open_rows_do_not_stay_for_the_next_leadership(self):
        broker = leader(MADE, 3)
        take_all(broker)
        broker.take(("send", "ann", 1, (ITEM,)))
        broker.take(("ask", 8, 1, 9, 9))
        ticks(broker, 7)
        broker.take(("vote", 9, 1, True))
        self.check(broker, role="leads", term=9, applied=4)
        self.assertEqual([to_clients(take_all(broker)), broker.applied], [[], 6])
        # The same sending is not open, either: it counts by now.
        self.quiet(broker, ("send", "ann", 1, (ITEM,)), [("ann", ("ok", "ann", 1))])


class Time(BrokerCase):
    """[123]: the time of one that leads."""

    def times_told(self, broker, many):
        """The times of the rows that are added in so many ticks, with the ticks in which they are."""
        told = []
        for tick in range(1, many + 1):
            before = broker.last()[0]
            broker.tick()
            told.extend([(tick, broker.row(index)[1][1]) for index in range(before + 1, broker.last()[0] + 1)])
        return told

    def test_rows(self):
        """At the 4th, 8th, 12th tick behind the one in which it became leader."""
        self.assertEqual(self.times_told(leader(), 13), [(4, 4), (8, 8), (12, 12)])
        broker = Seen(0, 1, Disk())
        self.assertEqual(self.times_told(broker, 15), [(7, 0), (11, 4), (15, 8)])
        self.assertEqual(broker.state().now, 8)

    def test_rows_of_one_among_several(self):
        """The ticks of others and letters count for nothing; each added row goes to all others."""
        broker = leader(brokers=3)
        take_all(broker)
        self.assertEqual(ticks(broker, 3), [(1, ("rows", 2, 0, 1, 2, (), 1)),
                                            (2, ("rows", 2, 0, 0, 0, ((2, ("now", 0)),), 1))])
        letters = broker.tick()
        now = (2, ("now", 4))
        self.assertEqual(letters, [
            (1, ("rows", 2, 0, 1, 2, (), 1)), (2, ("rows", 2, 0, 0, 0, ((2, ("now", 0)),), 1)),
            (1, ("rows", 2, 0, 1, 2, (now,), 1)), (2, ("rows", 2, 0, 0, 0, ((2, ("now", 0)), now), 1)),
        ])
        self.assertEqual([broker.state().now, to_clients(take_all(broker)), broker.state().now], [0, [], 4])

    def test_it_begins_with_the_greatest_that_is_known(self):
        """That of the state, or of a row of the log, taken or not, whether it is the last or not."""
        for commands, wanted in [([], 4), ([("now", 7)], 11), ([("now", 9), ("now", 3)], 13),
                                 ([("now", 3), ("now", 9)], 13)]:
            for brokers in (1, 3, 5):
                broker = leader(commands, brokers)
                self.assertEqual(self.times_told(broker, 8), [(4, wanted), (8, wanted + 4)])
        base = (5, 1, picture(fold([("now", 30)])))
        self.assertEqual(self.times_told(leader([("now", 7)], base=base), 4), [(4, 34)])
        self.assertEqual(self.times_told(leader([("now", 70)], 3, base=base), 4), [(4, 74)])

    def test_it_begins_anew_with_each_leadership(self):
        broker = leader([], 3)
        ticks(broker, 6)
        self.assertEqual(broker.row(2), (2, ("now", 4)))
        broker.take(("ask", 8, 1, 0, 0))
        ticks(broker, 7)
        broker.take(("vote", 9, 1, True))
        self.assertEqual(broker.last(), (3, 9))
        self.assertEqual(self.times_told(broker, 8), [(4, 8), (8, 12)])

    def test_it_is_never_above_the_greatest(self):
        broker = leader([("now", GREATEST - 5)])
        self.assertEqual(self.times_told(broker, 12), [(4, GREATEST - 1), (8, GREATEST), (12, GREATEST)])
        self.assertEqual(broker.state().now, GREATEST)

    def test_a_lease_behind_the_greatest_time(self):
        """Its end is 8 above the time all the same, and so it is never reached."""
        broker = leader([*SENT, ("now", GREATEST)])
        broker.take(("want", "bob", 1, "crew"))
        self.assertEqual(broker.leases(), [("crew", 2, "bob", (2, 1), GREATEST + 8)])
        ticks(broker, 30)
        self.assertEqual(broker.leases(), [("crew", 2, "bob", (2, 1), GREATEST + 8)])


class Ended(BrokerCase):
    """[123]: leases that have run out."""

    def test_at_its_end(self):
        """It ends in the tick in which the time is no more below its end; the row comes behind that of the time."""
        broker = leader(SENT)
        broker.take(("want", "bob", 1, "crew"))
        ticks(broker, 7)
        self.assertEqual([broker.leases(), broker.last()[0]], [[("crew", 2, "bob", (2, 1), 8)], 6])
        self.assertEqual(broker.tick(), [])
        self.assertEqual([broker.row(7)[1], broker.row(8)[1], broker.last()[0]],
                         [("now", 8), ("failed", "crew", 2, 0), 8])
        self.assertEqual([broker.leases(), broker.state().tries("crew", 2)], [[], 1])
        # It may be handed out again, and then fails with the tries that it has.
        broker.take(("want", "eve", 1, "crew"))
        self.assertEqual(broker.leases(), [("crew", 2, "eve", (2, 2), 16)])
        ticks(broker, 8)
        self.assertEqual(broker.row(broker.last()[0])[1], ("failed", "crew", 2, 1))

    def test_in_the_order_of_groups_and_ids(self):
        commands = [*SENT, ("group", "band", "jobs", None)]
        broker = leader(commands, 3)
        take_all(broker)
        for at, (member, group) in enumerate((("bob", "crew"), ("eve", "crew"), ("joe", "band"), ("sue", "band")), 1):
            broker.take(("want", member, at, group))
        self.assertEqual(broker.leases(), [
            ("band", 1, "sue", (2, 4), 8), ("band", 2, "joe", (2, 3), 8), ("crew", 1, "eve", (2, 2), 8),
            ("crew", 2, "bob", (2, 1), 8)])
        ticks(broker, 7)
        self.assertEqual(self.behind(broker, len(commands) + 1), [("now", 4)])
        broker.tick()
        ended = [("failed", "band", 1, 0), ("failed", "band", 2, 0), ("failed", "crew", 1, 0), ("failed", "crew", 2, 0)]
        self.assertEqual(self.behind(broker, len(commands) + 2), [("now", 8), *ended])
        # Each is open now: nothing further is added for it, and it is held until the row is taken.
        ticks(broker, 3)
        self.assertEqual(self.behind(broker, len(commands) + 7), [])
        self.assertEqual(len(broker.leases()), 4)
        self.assertEqual([to_clients(take_all(broker)), broker.leases()], [[], []])
        self.assertEqual([broker.state().tries("crew", 2), broker.state().tries("band", 1)], [1, 1])

    def test_not_beside_an_open_row(self):
        """An open "done" or "failed" row of this group and id, but of no other."""
        for word in ("done", "nay"):
            broker = leader(SENT, 3)
            take_all(broker)
            for at, member in enumerate(("bob", "eve"), 1):
                broker.take(("want", member, at, "crew"))
            letter = (word, "bob", 2, "crew", 2, (2, 1)) + (((),) if word == "done" else ())
            broker.take(letter)
            last = broker.last()[0]
            ticks(broker, 8)
            self.assertEqual(self.behind(broker, last), [("now", 4), ("now", 8), ("failed", "crew", 1, 0)])

    def test_a_member_is_answered_as_stale_behind_the_end(self):
        broker = leader(SENT)
        broker.take(("want", "bob", 1, "crew"))
        ticks(broker, 8)
        self.quiet(broker, ("done", "bob", 2, "crew", 2, (2, 1), ()),
                   [("bob", ("stale", "bob", 2, "crew", 2, (2, 1)))])


class Keeping(BrokerCase):
    """[123]: the picture that takes the place of rows."""

    def test_at_six_rows(self):
        """Not at 5 rows above the base; ahead of all else in a tick, of whatever role."""
        for many in (5, 6, 7):
            broker = Seen(1, 3, Disk())
            rows = rows_of([*SENT, ("now", 1), ("now", 2), ("now", 3), ("now", 4)])
            broker.take(("rows", 1, 0, 0, 0, tuple(rows[:5]), 0))
            broker.take(("rows", 1, 0, 5, 1, tuple(rows[5:]), many))
            self.assertEqual([broker.base, broker.applied], [0, many])
            self.assertEqual(broker.tick(), [])
            self.assertEqual([broker.base, broker.applied], [0 if many == 5 else many, many])
            self.assertEqual(broker.last(), (8, 1))
            _, _, base, base_term, value, left = log_meaning(broker.disk)
            if many > 5:
                self.assertEqual([base, base_term, value], [many, 1, picture(broker.state())])
                self.assertEqual(left, tuple(rows[many:]))
            self.assertEqual([broker.state(), broker.fresh()[many - 1:]],
                             [fold([command for _, command in rows[:many]]), [(many, *rows[many - 1])]])

    def test_counted_from_the_base(self):
        base = (10, 1, picture(fold(SENT)))
        for many in (5, 6):
            broker = Seen(1, 3, lay(rows_of([("now", at) for at in range(1, 8)]), 1, 0, base))
            broker.take(("rows", 1, 0, 17, 1, (), 10 + many))
            broker.tick()
            self.check(broker, base=10 if many == 5 else 16, applied=10 + many)

    def test_ahead_of_all_else(self):
        """One that leads sends the picture in this very tick; one that asks keeps ahead of asking."""
        broker = leader([*SENT, ("now", 1)], 3)
        take_all(broker)
        self.assertEqual([broker.base, broker.applied], [0, 6])
        letters = broker.tick()
        self.assertEqual([broker.base, broker.applied], [6, 6])
        self.assertEqual(letters[0], (1, ("rows", 2, 0, 6, 2, (), 6)))
        self.assertEqual(letters[1][1][:5], ("whole", 2, 0, 6, 2))
        self.assertEqual(letters[1][1][5], text_of(broker.state()))
        asking = Seen(0, 3, Disk())
        asking.take(("rows", 1, 1, 0, 0, tuple(rows_of([*SENT, ("now", 1)])), 0))
        asking.take(("rows", 1, 1, 5, 1, ((1, ("now", 2)),), 6))
        for _ in range(6):
            asking._node.tick()
        self.assertEqual([asking.base, asking.tick()[0]], [0, (1, ("ask", 2, 0, 6, 1))])
        self.assertEqual([asking.base, asking.role], [6, "asks"])

    def test_one_alone_keeps(self):
        broker = leader()
        for at in range(1, 9):
            broker.take(("make", "ops", at, ("topic", "abcdefgh"[at - 1], True)))
            self.assertEqual(broker.base, 0)
        broker.tick()
        self.check(broker, base=9, applied=9, taken=9)
        again = Broker(0, 1, broker.disk)
        self.assertEqual([again.state(), again.applied, again.taken], [broker.state(), 9, 9])


class Elsewhere(BrokerCase):
    """[124]: one that does not lead tells who does."""

    LETTERS = [("send", "ann", 7, (ITEM,)), ("want", "bob", 7, "crew"), ("done", "bob", 7, "crew", 1, (1, 1), ()),
               ("nay", "bob", 7, "crew", 1, (1, 1)), ("make", "ops", 7, ("topic", "jobs", True))]

    def test_leader(self):
        broker = Seen(2, 5, Disk())
        for letter in self.LETTERS:
            self.quiet(broker, letter, [(letter[1], ("elsewhere", letter[1], 7, -1))])
        for leads in (0, 4):
            broker.take(("rows", 1 + leads, leads, 0, 0, (), 0))
            for letter in self.LETTERS:
                self.quiet(broker, letter, [(letter[1], ("elsewhere", letter[1], 7, leads))])
        ticks(broker, 13)
        self.check(broker, role="asks", leader=None)
        for letter in self.LETTERS:
            self.quiet(broker, letter, [(letter[1], ("elsewhere", letter[1], 7, -1))])


class Sends(BrokerCase):
    """[124], [125]: sendings."""

    def test_counted(self):
        broker = leader([*MADE, ("send", "ann", 1, (ITEM,)), ("send", "ann", 2, (ITEM,))])
        for number in (1, 2):
            self.quiet(broker, ("send", "ann", number, (OTHER,)), [("ann", ("ok", "ann", number))])
        for number in (4, 5, GREATEST):
            self.quiet(broker, ("send", "ann", number, (ITEM,)), [])
        for number in (2, 3):
            self.quiet(broker, ("send", "cy", number, (ITEM,)), [])
        letter = ("send", "ann", 3, (ITEM,))
        self.assertEqual(broker.take(letter), [("ann", ("ok", "ann", 3))])
        self.assertEqual(broker.row(broker.applied), (2, letter))
        self.assertEqual(broker.take(("send", "cy", 1, (ITEM,))), [("cy", ("ok", "cy", 1))])
        self.assertEqual(broker.state().producers(), [("ann", 3), ("cy", 1)])

    def test_open(self):
        """Several numbers of one producer may be open, each once; they are answered in the order of their rows."""
        broker = leader(MADE, 3)
        take_all(broker)
        sent = [("send", "ann", number, (ITEM,)) for number in (1, 2, 3)]
        for at, letter in enumerate(sent):
            self.quiet(broker, ("send", "ann", at + 2, (ITEM,)), [])
            letters = broker.take(letter)
            rows = tuple([(2, command) for command in sent[:at + 1]])
            self.assertEqual(letters, [(1, ("rows", 2, 0, 4, 2, rows, 4)),
                                       (2, ("rows", 2, 0, 3, 1, ((2, ("now", 0)), *rows), 4))])
            for again in sent[:at + 1]:
                self.quiet(broker, again, [])
        broker.take(("send", "cy", 1, (ITEM,)))
        self.quiet(broker, ("send", "ann", 5, (ITEM,)), [])
        # What is taken is answered, and what is not is open on.
        letters = broker.take(("got", 2, 1, True, 6))
        self.assertEqual(letters, [(1, ("rows", 2, 0, 6, 2, tuple([(2, sent[2]), (2, ("send", "cy", 1, (ITEM,)))]), 6)),
                                   ("ann", ("ok", "ann", 1)), ("ann", ("ok", "ann", 2))])
        self.quiet(broker, sent[0], [("ann", ("ok", "ann", 1))])
        self.quiet(broker, sent[2], [])
        self.assertEqual(take_all(broker), [("ann", ("ok", "ann", 3)), ("cy", ("ok", "cy", 1))])
        self.assertEqual(broker.state().producers(), [("ann", 3), ("cy", 1)])

    def test_one_that_counts_by_an_elder_row(self):
        """By the state it isn't there yet: it is added once more, does not count, and is answered all the same."""
        sending = ("send", "ann", 1, (ITEM,))
        broker = leader([*MADE, sending], 3)
        broker.take(sending)
        self.assertEqual(broker.last(), (6, 2))
        self.assertEqual(take_all(broker), [("ann", ("ok", "ann", 1))])
        self.assertEqual([broker.state().producers(), broker.state().next], [[("ann", 1)], 2])


class Wants(BrokerCase):
    """[124]: messages that are handed out."""

    def give(self, member, ask, number, token, item, group="crew"):
        return [(member, ("give", member, ask, group, number, token, *item[:3]))]

    def test_in_turn(self):
        """The greater priority ahead, of a key the first one alone, each to one member."""
        broker = leader(SENT)
        self.quiet_but_leases(broker, ("want", "bob", 1, "crew"), self.give("bob", 1, 2, (2, 1), OTHER))
        self.quiet_but_leases(broker, ("want", "eve", 5, "crew"), self.give("eve", 5, 1, (2, 2), ITEM))
        # The third one stands behind the first of its key.
        self.quiet(broker, ("want", "joe", 9, "crew"), [("joe", ("none", "joe", 9))])
        self.assertEqual(broker.leases(), [("crew", 1, "eve", (2, 2), 8), ("crew", 2, "bob", (2, 1), 8)])
        broker.take(("done", "eve", 6, "crew", 1, (2, 2), ()))
        ticks(broker, 3)
        self.assertEqual(broker.take(("want", "joe", 10, "crew")),
                         self.give("joe", 10, 3, (2, 3), ("jobs", "k", "three")))
        self.assertEqual(broker.leases(), [("crew", 2, "bob", (2, 1), 8), ("crew", 3, "joe", (2, 3), 11)])

    def quiet_but_leases(self, broker, letter, letters):
        before = told_by(broker)
        self.assertEqual(broker.take(letter), letters)
        after = told_by(broker)
        self.assertEqual([part for at, part in enumerate(after) if at != 4],
                         [part for at, part in enumerate(before) if at != 4])
        self.assertNotEqual(before[4], after[4])

    def test_once_more(self):
        """One that holds gets the same with the same token, and the lease's end stays; also if a row is open."""
        broker = leader(SENT, 3)
        take_all(broker)
        broker.take(("want", "bob", 1, "crew"))
        ticks(broker, 3)
        self.quiet(broker, ("want", "bob", 2, "crew"), self.give("bob", 2, 2, (2, 1), OTHER))
        broker.take(("done", "bob", 3, "crew", 2, (2, 1), ()))
        self.quiet(broker, ("want", "bob", 4, "crew"), self.give("bob", 4, 2, (2, 1), OTHER))
        self.assertEqual(broker.leases(), [("crew", 2, "bob", (2, 1), 8)])
        # The count goes on with the next message that is handed out alone.
        self.assertEqual(broker.take(("want", "eve", 1, "crew")), self.give("eve", 1, 1, (2, 2), ITEM))

    def test_nothing_for_a_group(self):
        """Without anything eligible, and without such a group."""
        broker = leader(MADE)
        for group in ("crew", "gang", "jobs"):
            self.quiet(broker, ("want", "bob", 3, group), [("bob", ("none", "bob", 3))])

    def test_each_group_by_itself(self):
        """A member may hold something for each group; tokens are counted over all of them."""
        broker = leader([*SENT, ("group", "band", "jobs", None)])
        broker.take(("want", "bob", 1, "crew"))
        self.assertEqual(broker.take(("want", "bob", 2, "band")), self.give("bob", 2, 2, (2, 2), OTHER, "band"))
        self.assertEqual(broker.take(("want", "eve", 1, "band")), self.give("eve", 1, 1, (2, 3), ITEM, "band"))
        self.assertEqual(broker.leases(), [("band", 1, "eve", (2, 3), 8), ("band", 2, "bob", (2, 2), 8),
                                           ("crew", 2, "bob", (2, 1), 8)])

    def test_by_the_time_of_the_state(self):
        """What is delayed is not eligible before the state's time is there, whatever the broker's time is."""
        broker = leader([*MADE, ("send", "ann", 1, (("jobs", "k", "one", 0, 3, 0),))], 3)
        take_all(broker)
        ticks(broker, 4)
        self.assertEqual([broker.row(6), broker.state().now], [(2, ("now", 4)), 0])
        self.assertEqual(broker.take(("want", "bob", 1, "crew")), [("bob", ("none", "bob", 1))])
        take_all(broker)
        self.assertEqual(broker.take(("want", "bob", 2, "crew")), self.give("bob", 2, 1, (2, 1), ITEM))
        self.assertEqual(broker.leases(), [("crew", 1, "bob", (2, 1), 12)])

    def test_by_its_own_state(self):
        """Rows of an elder leader may be taken, but not in the state yet."""
        broker = leader(SENT, 3)
        self.assertEqual(broker.take(("want", "bob", 1, "crew")), [("bob", ("none", "bob", 1))])
        take_all(broker)
        self.assertEqual(broker.take(("want", "bob", 2, "crew")), self.give("bob", 2, 2, (2, 1), OTHER))

    def test_tokens_begin_anew(self):
        """With each leadership, and with its term."""
        broker = leader(SENT, 3)
        take_all(broker)
        broker.take(("want", "bob", 1, "crew"))
        broker.take(("want", "eve", 1, "crew"))
        broker.take(("ask", 8, 1, 0, 0))
        ticks(broker, 7)
        broker.take(("vote", 9, 2, True))
        self.assertEqual(broker.take(("want", "eve", 2, "crew")), self.give("eve", 2, 2, (9, 1), OTHER))
        self.assertEqual(broker.leases(), [("crew", 2, "eve", (9, 1), 8)])


class Settles(BrokerCase):
    """[124], [125]: dones and nays."""

    def held(self, brokers):
        """A leader by which bob holds 2 and eve holds 1."""
        broker = leader(SENT, brokers)
        if brokers > 1:
            take_all(broker)
        broker.take(("want", "bob", 1, "crew"))
        broker.take(("want", "eve", 1, "crew"))
        broker.fresh()
        return broker

    def letter(self, word, member, ask, number, token, items=(), group="crew"):
        return (word, member, ask, group, number, token) + ((items,) if word == "done" else ())

    def test_done(self):
        broker = self.held(1)
        letter = self.letter("done", "bob", 7, 2, (2, 1), (ITEM, ("dead", "k", "", 0, 0, 0)))
        self.assertEqual(broker.take(letter), [("bob", ("yes", "bob", 7, "crew", 2, (2, 1)))])
        self.assertEqual(broker.fresh(), [(6, 2, ("done", "crew", 2, (2, 1), letter[6]))])
        self.assertEqual([broker.leases(), broker.state().counts("crew"), broker.state().next],
                         [[("crew", 1, "eve", (2, 2), 8)], (1, 0), 6])

    def test_nay(self):
        broker = self.held(1)
        for tries in range(5):
            token = (2, 1) if tries == 0 else (2, 2 + tries)
            letter = self.letter("nay", "bob", 7, 2, token)
            self.assertEqual(broker.take(letter), [("bob", ("yes", "bob", 7, "crew", 2, token))])
            self.assertEqual(broker.fresh(), [(6 + tries, 2, ("failed", "crew", 2, tries))])
            self.assertEqual([broker.leases(), broker.state().tries("crew", 2)],
                             [[("crew", 1, "eve", (2, 2), 8)], tries + 1 if tries < 4 else None])
            broker.take(("want", "bob", 8, "crew"))
        self.assertEqual([broker.state().counts("crew"), broker.state().kept("dead")], [(0, 1), [4]])

    def test_stale(self):
        """From one who doesn't hold it, for another group or id, or by another token."""
        broker = self.held(1)
        for word in ("done", "nay"):
            for member, group, number, token in [
                    ("joe", "crew", 2, (2, 1)), ("eve", "crew", 2, (2, 1)), ("bob", "crew", 1, (2, 1)),
                    ("bob", "crew", 2, (2, 2)), ("bob", "crew", 2, (1, 1)), ("bob", "gang", 2, (2, 1)),
                    ("bob", "crew", 3, (2, 1)), ("bob", "jobs", 2, (2, 1)), ("bob", "crew", GREATEST, (2, 1))]:
                self.quiet(broker, self.letter(word, member, 4, number, token, (), group),
                           [(member, ("stale", member, 4, group, number, token))])

    def test_open(self):
        """As long as a row is open nothing is added for this message, and nothing is answered."""
        for first in ("done", "nay"):
            broker = self.held(3)
            letters = broker.take(self.letter(first, "bob", 7, 2, (2, 1)))
            command = ("done", "crew", 2, (2, 1), ()) if first == "done" else ("failed", "crew", 2, 0)
            self.assertEqual(letters[0], (1, ("rows", 2, 0, 5, 2, ((2, command),), 5)))
            for word in ("done", "nay"):
                self.quiet(broker, self.letter(word, "bob", 8, 2, (2, 1)), [])
            self.assertEqual(len(broker.take(self.letter("nay", "eve", 4, 1, (2, 2)))), 2)
            self.assertEqual(take_all(broker), [("bob", ("yes", "bob", 7, "crew", 2, (2, 1))),
                                                ("eve", ("yes", "eve", 4, "crew", 1, (2, 2)))])
            self.assertEqual(broker.leases(), [])

    def test_open_rows_of_others(self):
        """A sending with this very name and number is no row for the message, and no more is one of another id."""
        broker = leader([*SENT, ("send", "crew", 1, (ITEM,))], 3)
        take_all(broker)
        broker.take(("want", "bob", 1, "crew"))
        broker.take(("send", "crew", 2, (ITEM,)))
        broker.take(("want", "eve", 1, "crew"))
        broker.take(self.letter("nay", "eve", 2, 1, (2, 2)))
        self.assertEqual(len(broker.take(self.letter("done", "bob", 7, 2, (2, 1)))), 2)
        self.assertEqual(to_clients(take_all(broker)), [("crew", ("ok", "crew", 2)),
                                                        ("eve", ("yes", "eve", 2, "crew", 1, (2, 2))),
                                                        ("bob", ("yes", "bob", 7, "crew", 2, (2, 1)))])

    def test_a_row_that_does_not_count(self):
        """The answer is stale then; the lease goes all the same."""
        for word in ("done", "nay"):
            # By rows of an elder term the message is settled already, which its state does not know.
            elder = [*SENT, ("done", "crew", 2, (1, 1), ()), ("failed", "crew", 1, 0)]
            broker = Seen(0, 3, lay(rows_of(elder[4:]), 1, 0, (4, 1, picture(fold(SENT)))))
            ticks(broker, 7)
            broker.take(("vote", 2, 1, True))
            for at, member in enumerate(("bob", "eve"), 1):
                broker.take(("want", member, at, "crew"))
            self.assertEqual([lease[1:3] for lease in broker.leases()], [(1, "eve"), (2, "bob")])
            broker.take(self.letter(word, "bob", 7, 2, (2, 1), (ITEM,)))
            broker.take(self.letter("nay", "eve", 8, 1, (2, 2)))
            self.assertEqual(broker.last(), (9, 2))
            self.assertEqual(take_all(broker), [("bob", ("stale", "bob", 7, "crew", 2, (2, 1))),
                                                ("eve", ("stale", "eve", 8, "crew", 1, (2, 2)))])
            # Message 1 waits still, but its lease is gone as well.
            self.assertEqual([broker.leases(), broker.state().tries("crew", 1), broker.state().counts("crew")],
                             [[], 1, (1, 0)])

    def test_behind_a_row_that_failed_by_time(self):
        """A "done" that comes while the row for the end of the lease is open is not answered; behind it, stale."""
        broker = self.held(3)
        ticks(broker, 8)
        letter = self.letter("done", "bob", 7, 2, (2, 1))
        self.quiet(broker, letter, [])
        self.assertEqual(to_clients(take_all(broker)), [])
        broker.fresh()
        self.quiet(broker, letter, [("bob", ("stale", "bob", 7, "crew", 2, (2, 1)))])


class Makes(BrokerCase):
    """[124], [125]: topics and groups."""

    def make(self, ask, *command):
        return "make", "ops", ask, command

    def test_one_alone(self):
        broker = leader()
        self.assertEqual(broker.take(self.make(3, "topic", "jobs", True)), [("ops", ("made", "ops", 3))])
        self.assertEqual(broker.fresh(), [(2, 2, ("topic", "jobs", True))])
        self.assertEqual(broker.take(self.make(4, "group", "jobs", "jobs", None)), [("ops", ("made", "ops", 4))])
        self.assertEqual(broker.state().groups(), [("jobs", "jobs", None)])

    def test_what_is_there(self):
        """However it was made, and whatever is asked for else."""
        broker = leader(MADE)
        for command in (("topic", "jobs", False), ("topic", "jobs", True), ("group", "crew", "jobs", "dead"),
                        ("group", "crew", "dead", None), ("group", "crew", "none", "nowhere")):
            self.quiet(broker, self.make(5, *command), [("ops", ("made", "ops", 5))])

    def test_topics_that_are_missing(self):
        broker = leader(MADE)
        for command in (("group", "gang", "none", None), ("group", "gang", "jobs", "none"),
                        ("group", "gang", "crew", None), ("group", "gang", "none", "jobs")):
            self.quiet(broker, self.make(5, *command), [])
        self.assertEqual(broker.take(self.make(6, "group", "gang", "dead", "jobs")), [("ops", ("made", "ops", 6))])

    def test_open(self):
        """No second row of the same word and name; a group may be called as a topic is."""
        broker = leader(MADE, 3)
        take_all(broker)
        broker.take(self.make(1, "topic", "more", False))
        broker.take(self.make(2, "group", "gang", "jobs", None))
        broker.fresh()
        for command in (("topic", "more", True), ("group", "gang", "dead", None), ("topic", "more", False)):
            self.quiet(broker, ("make", "joe", 3, command), [])
        # A topic of which the row is open alone is not there yet.
        self.quiet(broker, self.make(4, "group", "crowd", "more", None), [])
        self.quiet(broker, self.make(4, "group", "crowd", "jobs", "more"), [])
        broker.take(("make", "sue", 5, ("group", "more", "jobs", None)))
        broker.take(("make", "sue", 6, ("topic", "gang", False)))
        self.assertEqual(broker.last(), (8, 2))
        self.assertEqual(take_all(broker), [("ops", ("made", "ops", 1)), ("ops", ("made", "ops", 2)),
                                            ("sue", ("made", "sue", 5)), ("sue", ("made", "sue", 6))])

    def test_one_that_is_there_by_an_elder_row(self):
        broker = leader([("topic", "jobs", True)], 3)
        broker.take(self.make(7, "topic", "jobs", False))
        self.assertEqual(broker.last(), (3, 2))
        self.assertEqual(take_all(broker), [("ops", ("made", "ops", 7))])
        self.assertEqual(broker.state().topics(), [("jobs", True)])

    def test_a_group_whose_topic_an_elder_row_makes(self):
        """The state does not know of the topic yet: nothing is added."""
        broker = leader([("topic", "jobs", True)], 3)
        self.quiet(broker, self.make(7, "group", "crew", "jobs", None), [])
        take_all(broker)
        broker.take(self.make(8, "group", "crew", "jobs", None))
        self.assertEqual(take_all(broker), [("ops", ("made", "ops", 8))])


class Refused(BrokerCase):
    """[6], [124]: letters that are refused."""

    ANSWERS = [("ok", "ann", 1), ("give", "bob", 1, "crew", 1, (1, 1), "jobs", "k", "one"), ("none", "bob", 1),
               ("yes", "bob", 1, "crew", 1, (1, 1)), ("stale", "bob", 1, "crew", 1, (1, 1)), ("made", "ops", 1),
               ("elsewhere", "bob", 1, -1)]

    def brokers(self):
        """One that leads alone, one that leads, one that follows, one that asks."""
        asking = Seen(0, 3, lay(rows_of(SENT), 1))
        ticks(asking, 7)
        follows = Seen(0, 3, Disk())
        follows.take(("rows", 1, 2, 0, 0, tuple(rows_of(SENT)), 3))
        several = leader(SENT, 3)
        take_all(several)
        several.take(("want", "bob", 1, "crew"))
        several.take(("send", "ann", 2, (ITEM,)))
        alone = leader(SENT)
        alone.take(("want", "bob", 1, "crew"))
        for broker in (asking, follows, several, alone):
            broker.fresh()
        return [asking, follows, several, alone]

    def test_no_letters(self):
        for broker in self.brokers():
            before = told_by(broker)
            for letter in (*FALSE_LETTERS, *self.ANSWERS):
                self.assert_given(InvalidLetter, letter, broker.take, letter)
                self.assert_given(InvalidLetter, letter, broker.take, letter=letter)
            self.assertEqual([told_by(broker), broker.fresh()], [before, []])

    def test_letters_of_no_other(self):
        for at, broker in enumerate(self.brokers()):
            before = told_by(broker)
            for sender in (0, 3, 4) if at < 3 else (0, 1, 2, 3, 4):
                for letter in (("ask", 9, sender, 9, 9), ("vote", 9, sender, True), ("got", 9, sender, True, 1),
                               ("rows", 9, sender, 0, 0, (), 0), ("whole", 9, sender, 9, 9, text_of(State()))):
                    self.assert_given(InvalidLetter, letter, broker.take, letter)
            self.assertEqual([told_by(broker), broker.fresh()], [before, []])

    def test_texts_of_no_state(self):
        """Whatever the term, and whether the node would keep it or not; a node takes them."""
        good = text_of(fold(SENT))
        for text in ("~", "0", "()", '"p"', "(0 1)", "(0 1 () () ())", "(0 0 () () () ())", "(0 1 () () () () ())",
                     good.replace('"jobs" !', '"jobs" 0'), "(1000000000000 1 () () () ())",
                     '(0 1 (("a" !) ("a" !)) () () ())'):
            for broker in self.brokers()[:3]:
                before = told_by(broker)
                for term in (1, broker.term, broker.term + 1, 9):
                    for index in (0, 3, 9):
                        letter = ("whole", term, 1, index, 1, text)
                        self.assert_given(InvalidLetter, letter, broker.take, letter)
                self.assertEqual([told_by(broker), broker.fresh()], [before, []])

    def test_texts_of_a_state(self):
        for broker in self.brokers()[:3]:
            self.assertEqual(broker.take(("whole", 9, 1, 9, 1, "(999999999999 1 () () () ())")),
                             [(1, ("got", 9, 0, True, 9))])
            self.check(broker, applied=9, taken=9, base=9, role="follows", leader=1)
            self.assertEqual([broker.state().now, broker.last()], [GREATEST, (9, 1)])


class Order(BrokerCase):
    """[121]: letters go out in the order that is told."""

    def test_tick(self):
        """The node's, those of each row that is added, then what is answered for the rows that are taken."""
        broker = leader(SENT)
        broker.take(("want", "bob", 1, "crew"))
        self.assertEqual(ticks(broker, 8), [])
        several = leader(SENT, 3)
        take_all(several)
        several.take(("want", "bob", 1, "crew"))
        ticks(several, 7)
        letters = several.tick()
        behind = [(2, ("now", 8)), (2, ("failed", "crew", 2, 0))]
        self.assertEqual(letters[0::2], [(1, ("rows", 2, 0, 5, 2, ((2, ("now", 4)), *behind[:many]), 5))
                                         for many in (0, 1, 2)])
        self.assertEqual([to for to, _ in letters], [1, 2, 1, 2, 1, 2])

    def test_take(self):
        broker = leader(SENT, 3)
        take_all(broker)
        broker.take(("send", "ann", 2, (ITEM,)))
        broker.take(("send", "ann", 3, (ITEM,)))
        letters = broker.take(("got", 2, 2, True, 6))
        self.assertEqual(letters, [(2, ("rows", 2, 0, 6, 2, ((2, ("send", "ann", 3, (ITEM,))),), 6)),
                                   ("ann", ("ok", "ann", 2))])

    def test_lists_are_the_askers_own(self):
        broker = leader(SENT, 3)
        letters = broker.tick()
        letters.clear()
        self.assertEqual(len(broker.tick()), 2)


class Power(BrokerCase):
    """[77], [91], [121]: the power goes at each call on the disk, and a broker is opened on what is left."""

    def deeds(self):
        """Deeds of one alone, and of one among three, that write and keep and hand out."""
        alone = [(word, None) for word in ["tick"] * 7]
        for at, command in enumerate(MADE, 1):
            alone.append(("take", ("make", "ops", at, command)))
        sent = [("take", ("send", "ann", at, (ITEM, OTHER))) for at in (1, 2, 3)]
        work = [("take", ("want", "bob", 1, "crew")), ("take", ("done", "bob", 2, "crew", 2, (1, 1), (ITEM,)))]
        alone = [*alone, *sent, *work, ("take", ("want", "bob", 3, "crew")), *[("tick", None)] * 9]
        rows = [(3, command) for command in SENT]
        several = [("take", ("rows", 3, 1, 0, 0, tuple(rows), 2)), *[("tick", None)] * 8,
                   ("take", ("vote", 4, 2, True)), ("take", ("got", 4, 2, True, 5)), *alone[10:],
                   ("take", ("got", 4, 2, True, 9)), *[("tick", None)] * 3,
                   ("take", ("rows", 9, 2, 9, 4, ((9, ("now", 0)),), 10)),
                   ("take", ("whole", 9, 2, 30, 9, text_of(fold(SENT)))), ("tick", None)]
        return [(1, alone), (3, several)]

    def test_at_each_call(self):
        for brokers, deeds in self.deeds():
            whole = Seen(0, brokers, Disk())
            for word, letter in deeds:
                self.do(whole, word, letter)
            total = whole.disk.ops()
            self.assertGreater(total, 25)
            for ops in range(total):
                for keeps in ([], [10 ** 9], [3, 50]):
                    with self.subTest(brokers=brokers, ops=ops, keeps=keeps):
                        self.run_with_cut(brokers, deeds, ops, keeps)

    def do(self, broker, word, letter):
        return broker.tick() if word == "tick" else broker.take(letter)

    def run_with_cut(self, brokers, deeds, ops, keeps):
        broker, twin = Seen(0, brokers, Disk()), Seen(0, brokers, Disk())
        broker.disk.arm(ops)
        for word, letter in deeds:
            before = told_by(twin)
            meaning = log_meaning(twin.disk)
            self.do(twin, word, letter)
            try:
                self.do(broker, word, letter)
            except PowerCut:
                self.assertLess(before[5][1], twin.disk.ops())
                self.check_left(brokers, broker, twin, meaning, keeps)
                return
            self.assertEqual(told_by(broker), told_by(twin))
        self.fail("the power did not go")

    def check_left(self, brokers, broker, twin, ahead, keeps):
        """What is left is no less than what was there ahead of the call, and no more than behind it."""
        broker.disk.fall(keeps)
        again = Seen(0, brokers, broker.disk)
        behind = log_meaning(twin.disk)
        left = log_meaning(broker.disk)
        self.assertIn(left[0], range(ahead[0], behind[0] + 1))
        self.assertIn(left[2], (ahead[2], behind[2]))
        self.assertEqual([again.applied, again.taken, again.role, again.leases(), again.fresh()],
                         [left[2], left[2], "follows", [], []])
        if left[2]:
            self.assertEqual(picture(again.state()), left[4])
        for row in left[5]:
            self.assertIn(row, [*ahead[5], *behind[5]])
        ticks(again, 7)
        self.assertIn(again.role, ("asks", "leads"))


if __name__ == "__main__":
    unittest.main()
