"""Points [6], [7] and [171] to [175]: what the disks of several brokers tell."""

import random
import unittest

from inorderonce.disks import Disk
from inorderonce.errors import InvalidDisk, InvalidTerm
from inorderonce.examiner import able, findings, last_term, on_most, shared, votes
from inorderonce.frames import all_framed
from inorderonce.lines import line
from inorderonce.logs import Log, log_meaning
from inorderonce.worlds import World
from tests.support import NO_INTEGERS, STRANGE, Case, any_act, any_world, files_of, lay, nest, warm_acts

NO_DISKS = [*STRANGE, 0, 1, "", "disk", Disk, Disk(), (), [], [None], [Disk(), None], [Disk(), 1],
            (Disk(), Log(Disk())), [Disk()] * 6, {0: Disk()}, [[Disk()]], [Disk], nest(1000)]
FAR = 999999999999


def disk(*terms, term=None, base=None, voted=None, unlike=()):
    """A disk with rows of these terms, in this term or the greatest of theirs; rows at unlike indices say so."""
    first = base[0] if base else 0
    rows = [(elder, ("now", 10 ** 6 + at if at in unlike else at)) for at, elder in enumerate(terms, first + 1)]
    top = max([term or 0, *terms, base[1] if base else 0])
    made = lay(rows, top, voted if term in (None, top) else None, base)
    return made


def written(*entries):
    """A disk with these entries as they are: a log that no Log would write."""
    made = Disk()
    made.write("log-0001", all_framed([line(entry) for entry in entries]))
    made.sync("log-0001")
    return made


def row(index, term, at=None):
    return "row", index, term, ("now", index if at is None else at)


class Findings(Case):
    """[171]: what cannot be of brokers who copy rows."""

    def test_none(self):
        for disks in ([Disk()], [Disk()] * 5, [disk(1, 1, 2), disk(1, 1), disk(1, 3)], (disk(1, 2, 2, 5),),
                      [disk(1, 1, 2, base=(4, 1, "p")), disk(1, 1, 1, 1, 1, 1, 2)],
                      [disk(base=(4, 1, "p")), disk(base=(9, 1, "q")), disk(base=(9, 1, "q"), term=7)]):
            self.assertEqual(findings(disks), [])

    def test_own_rows_below_the_row_ahead(self):
        log = written(("vote", 9, 0), row(1, 2), row(2, 1), row(3, 1), row(4, 3), row(5, 2))
        self.assertEqual(findings([log]), [("own", 0, 2), ("own", 0, 5)])
        self.assertEqual(findings(disks=[Disk(), log]), [("own", 1, 2), ("own", 1, 5)])

    def test_own_rows_behind_the_base(self):
        log = written(("vote", 9, 0), ("whole", 4, 3, ()), row(5, 2), row(6, 2))
        self.assertEqual(findings([log]), [("own", 0, 5)])
        self.assertEqual(findings([written(("vote", 9, 0), ("whole", 4, 2, ()), row(5, 2))]), [])

    def test_own_rows_above_the_term(self):
        log = written(("vote", 3, 0), row(1, 3), row(2, 4), row(3, 4), row(4, 3))
        self.assertEqual(findings([log]), [("own", 0, 2), ("own", 0, 3), ("own", 0, 4)])
        self.assertEqual(findings([written(row(1, 1))]), [("own", 0, 1)])
        # A base of a greater term than the log's is no finding by itself.
        self.assertEqual(findings([written(("vote", 3, 0), ("whole", 4, 5, ()))]), [])

    def test_rows_that_are_unlike(self):
        """Of the same term at the same index; the least such index alone."""
        disks = [disk(1, 1, 1, 1, 1), disk(1, 1, 1, 1, 1, unlike=(3, 4)), disk(1, 1, 2, 2, unlike=(3,))]
        self.assertEqual(findings(disks), [("rows", 0, 1, 3)])
        self.assertEqual(findings([disk(1, unlike=(1,)), disk(1)]), [("rows", 0, 1, 1)])
        self.assertEqual(findings([disk(1, 1, 1), disk(1, 1, 2, unlike=(2, 3))]), [("rows", 0, 1, 2)])

    def test_rows_behind_unlike_terms(self):
        """Like rows of the same term, where at a lesser index the terms are unlike."""
        self.assertEqual(findings([disk(1, 3, 4, 4), disk(1, 2, 4, 4)]), [("rows", 0, 1, 3)])
        self.assertEqual(findings([disk(1, 3, 4, 5), disk(1, 2, 3, 5)]), [("rows", 0, 1, 4)])
        self.assertEqual(findings([disk(1, 3, 4), disk(1, 2, 3)]), [])

    def test_rows_behind_bases(self):
        """A lesser index may be that of a base, of one or of both."""
        self.assertEqual(findings([disk(3, base=(2, 1, "p")), disk(1, 2, 3)]), [("rows", 0, 1, 3)])
        self.assertEqual(findings([disk(1, 2, 3), disk(3, base=(2, 1, "p"))]), [("rows", 0, 1, 3)])
        self.assertEqual(findings([disk(3, base=(2, 2, "p")), disk(1, 2, 3)]), [])
        self.assertEqual(findings([disk(3, base=(2, 1, "p")), disk(3, base=(2, 2, "p"))]),
                         [("bases", 0, 1, 2), ("rows", 0, 1, 3)])
        # An index at which one of them has nothing, or lies beneath its base, is none at which both have terms.
        self.assertEqual(findings([disk(3, base=(2, 2, "p")), disk(1, 2, 3, unlike=(1,))]), [])
        self.assertEqual(findings([disk(3, 3, base=(2, 1, "p")), disk(3, base=(3, 3, "p"))]), [])
        # The row at the index of the other's base is not compared with it.
        self.assertEqual(findings([disk(1, 1, 1, unlike=(2,)), disk(1, base=(2, 1, "p"))]), [])

    def test_unlike_at_the_index_itself_alone(self):
        self.assertEqual(findings([disk(1, 1, 2), disk(1, 1, 3)]), [])
        self.assertEqual(findings([disk(1, 1, 2), disk(1, 1, 3, unlike=(3,))]), [])

    def test_bases(self):
        """Of the same index alone, above 0: unlike terms, or pictures whose lines are unlike."""
        for one, other, wanted in [((4, 1, "p"), (4, 2, "p"), True), ((4, 1, "p"), (4, 1, "q"), True),
                                   ((4, 1, 1), (4, 1, True), True), ((4, 1, 0), (4, 1, False), True),
                                   ((4, 1, (1, 0)), (4, 1, (True, 0)), True),
                                   ((4, 1, "p"), (4, 1, "p"), False), ((4, 1, "p"), (5, 2, "q"), False),
                                   ((4, 1, None), (4, 1, ()), True), ((FAR, 1, None), (FAR, 1, None), False)]:
            disks = [disk(base=one), disk(base=other, term=9)]
            self.assertEqual(findings(disks), [("bases", 0, 1, one[0])] if wanted else [])
            self.assertEqual(findings([Disk(), *disks]), [("bases", 1, 2, one[0])] if wanted else [])

    def test_all_in_order(self):
        disks = [written(("vote", 1, 0), ("whole", 2, 1, "p"), row(3, 2), row(4, 2)),
                 written(("vote", 4, 0), ("whole", 2, 3, "p"), row(3, 2), row(4, 1)),
                 disk(2, 2, base=(2, 1, "q"), unlike=(4,))]
        self.assertEqual(findings(disks), [
            ("bases", 0, 1, 2), ("bases", 0, 2, 2), ("bases", 1, 2, 2), ("own", 0, 3), ("own", 0, 4), ("own", 1, 3),
            ("own", 1, 4), ("rows", 0, 1, 3), ("rows", 0, 2, 4), ("rows", 1, 2, 3)])

    def test_disks_stay(self):
        disks = [disk(1, 1), disk(1), Disk()]
        before = [files_of(one) for one in disks]
        for one in disks:
            one.arm(0)
        for call in (findings, on_most, shared, last_term, able):
            self.assertEqual(call(disks), call(tuple(disks)))
        votes(disks, 1)
        self.assertEqual([files_of(one) for one in disks], before)


class Most(Case):
    """[172]: what most have, and what all have."""

    def test_rows(self):
        one, none = disk(1), Disk()
        for disks, wanted in [([none], 0), ([none] * 5, 0), ([disk(1, 1)], 2), ([disk(1, 1), one, none], 1),
                              ([disk(1, 1, 1), disk(1, 1), none], 2), ([disk(1, 1), one], 1), ([one, none], 0),
                              ([disk(1, 1), disk(1, 2), none], 1), ([disk(1, 1), disk(1, 2), disk(1, 2)], 2),
                              ([disk(1, 1), disk(1, 1, 1), none, none], 0), ([one, one, one, none, none], 1)]:
            self.assertEqual(on_most(disks), wanted)
            self.assertEqual(on_most(disks=tuple(reversed(disks))), wanted)

    def test_unlike_rows_of_one_term(self):
        """The term alone is asked, and that of this very index alone."""
        self.assertEqual(on_most([disk(1, 1), disk(1, 1, unlike=(1, 2)), Disk()]), 2)
        self.assertEqual(on_most([disk(1, 3), disk(2, 3), Disk()]), 2)

    def test_bases(self):
        """A base that is not below counts for any term; bases may be far apart."""
        far = disk(base=(FAR, 1, "p"))
        self.assertEqual(on_most([far]), FAR)
        self.assertEqual(on_most([far, disk(base=(7, 1, "p")), Disk()]), 7)
        self.assertEqual(on_most([far, disk(1, 2, 2, base=(7, 1, "p")), Disk()]), 10)
        self.assertEqual(on_most([far, disk(1, 2, 3), Disk()]), 3)
        self.assertEqual(on_most([far, far, disk(1)]), FAR)
        self.assertEqual(on_most([far, Disk(), Disk()]), 0)
        self.assertEqual(on_most([far, disk(1, 2), disk(1, 3), Disk(), Disk()]), 1)
        self.assertEqual(on_most([far, disk(1, 3), disk(2, 3), Disk(), Disk()]), 2)
        near = [disk(base=(FAR - 1, 1, "p")), disk(base=(FAR - 2, 1, "p"))]
        self.assertEqual(on_most([far, *near, Disk(), Disk()]), FAR - 2)

    def test_at_the_index_of_a_base(self):
        """A base at this very index counts, one below it does not."""
        self.assertEqual(on_most([disk(base=(2, 1, "p")), disk(1, 2), Disk()]), 2)
        self.assertEqual(on_most([disk(base=(2, 1, "p")), disk(1, 2, 2), Disk()]), 2)
        self.assertEqual(on_most([disk(3, base=(2, 1, "p")), disk(1, 2, 3), Disk()]), 3)
        self.assertEqual(on_most([disk(4, base=(2, 1, "p")), disk(1, 2, 3), Disk()]), 2)

    def test_shared(self):
        rows = [(1, ("now", 1)), (1, ("now", 2)), (2, ("now", 3))]
        for disks, wanted in [([disk(1, 1, 2)], rows), ([disk(1, 1, 2), disk(1, 1)], rows[:2]), ([Disk(), disk(1)], []),
                              ([disk(1, 1, 2), disk(1, 1, 2), disk(1, 1, 2, unlike=(2,))], rows[:1]),
                              ([disk(1, 1, 2), disk(1, 2, 2)], rows[:1]), ([disk(1, 2, 2), disk(1, 1, 2)], rows[:1]),
                              ([disk(2, 2, 2), disk(1, 2, 2)], [])]:
            self.assertEqual(shared(disks), wanted)
            self.assertEqual(shared(disks=tuple(disks)), wanted)

    def test_shared_behind_bases(self):
        """From the index behind the greatest of the bases on."""
        based = disk(1, 2, base=(2, 1, "p"))
        self.assertEqual(shared([based]), [(1, ("now", 3)), (2, ("now", 4))])
        self.assertEqual(shared([based, disk(1, 1, 1, 2, 2)]), [(1, ("now", 3)), (2, ("now", 4))])
        self.assertEqual(shared([disk(1, 1, 1, 2, 2), based, disk(2, base=(3, 1, "q"))]), [(2, ("now", 4))])
        self.assertEqual(shared([based, disk(1, 1)]), [])
        self.assertEqual(shared([based, disk(1)]), [])
        self.assertEqual(shared([based, disk(base=(FAR, 1, "p"))]), [])
        shared([based]).clear()
        self.assertEqual(len(shared([based])), 2)


class Votes(Case):
    """[173], [174]: terms and votes, and who could be chosen."""

    def test_last_term(self):
        self.assertEqual([last_term([Disk()]), last_term([Disk(), disk(term=7), disk(2)])], [0, 7])
        self.assertEqual(last_term(disks=[disk(base=(3, 5, 0))]), 5)

    def test_votes(self):
        disks = [disk(term=3, voted=1), disk(term=3), disk(term=3, voted=0), disk(term=2, voted=2), Disk()]
        self.assertEqual([votes(disks, term) for term in (1, 2, 3, 4)],
                         [[None] * 5, [None, None, None, 2, None], [1, None, 0, None, None], [None] * 5])
        self.assertEqual(votes(term=3, disks=disks[:1]), [1])
        votes(disks, 3).clear()

    def test_votes_raises(self):
        for term in (*NO_INTEGERS, 0, -1):
            self.assert_given(InvalidTerm, term, votes, [Disk()], term)
        for value in NO_DISKS:
            self.assert_given(InvalidDisk, value, votes, value, 0)
            self.assert_given(InvalidDisk, value, votes, term=1, disks=value)

    def test_able(self):
        """The term of the last row first, then its index; a log without rows ends with its base."""
        for disks, wanted in [([Disk()], [0]), ([Disk()] * 5, [0, 1, 2, 3, 4]), ([disk(1), Disk(), Disk()], [0, 1, 2]),
                              ([disk(1), disk(1), Disk()], [0, 1]), ([disk(2), disk(1, 1, 1), disk(1, 1)], [0, 1]),
                              ([disk(1, 1), disk(2), disk(1, 1)], [0, 1, 2]), ([disk(1, 1), disk(2), disk(2)], [1, 2]),
                              ([disk(base=(9, 1, "p")), disk(1, 1), disk(1, 2)], [0, 2]),
                              ([disk(base=(2, 2, "p")), disk(1, 2), disk(1, 2, 2)], [0, 1, 2]),
                              ([disk(2, base=(2, 2, "p")), disk(1, 2), disk(1, 2, 2)], [0, 2]),
                              ([disk(1), disk(2)], [1]), ([disk(1), disk(1)], [0, 1]),
                              ([disk(3), disk(2), disk(1), Disk()], [0, 1])]:
            self.assertEqual(able(disks), wanted)
            self.assertEqual(able(disks=tuple(disks)), wanted)
        # The term of the log itself is of no account.
        self.assertEqual(able([disk(1, term=9), disk(2), disk(2)]), [1, 2])


class Refused(Case):
    """[6], [171] to [174]: what is no list of 1 to 5 disks."""

    def test_raises(self):
        for value in NO_DISKS:
            for call in (findings, on_most, shared, last_term, able):
                self.assert_given(InvalidDisk, value, call, value)
                self.assert_given(InvalidDisk, value, call, disks=value)


class Runs(unittest.TestCase):
    """[175]: the disks of the brokers of any world, at every moment."""

    def check(self, world):
        disks = [world.disk(number) for number in range(world.brokers())]
        logs = [log_meaning(one) for one in disks]
        rows, most = world.log(), len(disks) // 2 + 1
        self.assertEqual(findings(disks), [])
        for index, told in enumerate(rows, 1):
            have = [base >= index or index <= base + len(held) and held[index - base - 1] == told
                    for _, _, base, _, _, held in logs]
            self.assertGreaterEqual(sum(have), most)
        self.assertLessEqual(max([len(rows), *[reached or 0 for reached in world.reached()]]), on_most(disks))
        base = max([log[2] for log in logs])
        for index, held in enumerate(shared(disks), base + 1):
            if index <= len(rows):
                self.assertEqual(held, rows[index - 1])
        term = last_term(disks)
        self.assertEqual(term, max([log[0] for log in logs]))
        for number in range(world.brokers()):
            if world.stands(number) and world.broker(number).role == "leads" and world.broker(number).term == term:
                self.assertGreaterEqual(votes(disks, term).count(number), most)
        for number in able(disks):
            _, _, base, _, _, held = logs[number]
            self.assertGreaterEqual(base + len(held), len(rows))
            self.assertEqual(list(held[:max(0, len(rows) - base)]), rows[base:])
        self.assertTrue(able(disks))

    def test_runs(self):
        unlike = 0
        for seed in range(60):
            with self.subTest(seed=seed):
                source = random.Random(seed)
                world = World(*any_world(source))
                acts = [act for act in warm_acts(world)] if seed % 3 else []
                for _ in range(60 + 3 * seed):
                    acts.extend(["any", "any", "tick", None] if source.random() < 0.3 else ["any"])
                for act in acts:
                    while act is None and world.letters():
                        world.act(("carry", 0))
                    if act is not None:
                        other = ("tick", source.randrange(world.brokers()))
                        world.act(any_act(source, world) if act == "any" else other if act == "tick" else act)
                    if source.random() < 0.12:
                        self.check(world)
                unlike += len(able([world.disk(number) for number in range(world.brokers())])) < world.brokers()
        self.assertGreater(unlike, 5)


if __name__ == "__main__":
    unittest.main()
