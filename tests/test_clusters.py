"""Points [91] to [101]: whole runs of nodes, whose letters come late, twice, out of order or never, with falls."""

import random
import unittest

from inorderonce.disks import Disk
from inorderonce.errors import PowerCut
from inorderonce.letters import is_letter, side
from inorderonce.logs import log_meaning
from inorderonce.nodes import Node


class Cluster:
    """Nodes, their disks, the letters on the way, and what must hold of them at each step."""

    def __init__(self, case, brokers):
        self.case = case
        self.disks = [Disk() for _ in range(brokers)]
        self.nodes = [Node(number, brokers, disk) for number, disk in enumerate(self.disks)]
        self.way = []
        self.keeps = [[] for _ in range(brokers)]
        # For each node its log as it was told last, and up to where it ever had taken.
        self.logs = [(0, 0, []) for _ in range(brokers)]
        self.reached = [0] * brokers
        self.taken = []
        self.leaders = {}
        self.puts = 0

    def call(self, number, method, *places):
        """Have a node do something; what it sends goes on the way. If the power goes, it falls at once."""
        node = self.nodes[number]
        if node is None:
            return
        before = node.patience
        try:
            told = getattr(node, method)(*places)
        except PowerCut:
            self.fall(number, self.keeps[number])
            return
        letters = told[1] if method == "put" else told or []
        for to, letter in letters:
            self.case.assertTrue(is_letter(letter) and side(letter) == "brokers"
                                 and letter[2] == number != to < len(self.nodes))
        if method == "tick" and node.role == "leads" and letters == []:
            self.case.assertEqual(len(self.nodes), 1)
        self.case.assertGreaterEqual(before + 1, node.patience)
        self.way.extend(letters)
        self.check(number)

    def carry(self, place):
        if self.way:
            to, letter = self.way.pop(place % len(self.way))
            self.call(to, "take", letter)

    def fall(self, number, keeps):
        if self.nodes[number] is not None:
            self.disks[number].fall(keeps)
            self.nodes[number] = None
            _, _, base, base_term, _, rows = log_meaning(self.disks[number])
            self.check_log(number, base, base_term, list(rows))

    def rise(self, number):
        if self.nodes[number] is None:
            self.nodes[number] = Node(number, len(self.nodes), self.disks[number])
            self.check(number)

    def put(self, number):
        node = self.nodes[number]
        if node is not None and node.role == "leads":
            self.puts += 1
            self.call(number, "put", ("now", self.puts))

    def keep(self, number):
        node = self.nodes[number]
        if node is not None and node.taken > node.base:
            index = (node.base + node.taken + 1) // 2
            self.call(number, "keep", index, ("p", index))

    def check(self, number):
        """[101], of what one node tells now."""
        node, case = self.nodes[number], self.case
        index, _ = node.last()
        base_term = node.term_at(node.base)
        self.check_log(number, node.base, base_term, [node.row(place) for place in range(node.base + 1, index + 1)])
        if node.role == "leads":
            case.assertEqual(self.leaders.setdefault(node.term, number), number)
            case.assertEqual(node.leader, number)
        if node.base:
            case.assertEqual(node.picture(), ("p", node.base))
        case.assertLessEqual(node.base, node.taken)
        case.assertLessEqual(node.taken, index)
        case.assertLessEqual(node.base, len(self.taken))
        for place in range(node.base + 1, node.taken + 1):
            if place > len(self.taken):
                self.taken.append(node.row(place))
            case.assertEqual(self.taken[place - 1], node.row(place))
        self.reached[number] = max(self.reached[number], node.taken)

    def check_log(self, number, base, base_term, rows):
        """[101], of a log: also of one whose node is fallen."""
        case = self.case
        case.assertGreaterEqual(base + len(rows), self.reached[number])
        for place in range(base + 1, self.reached[number] + 1):
            case.assertEqual(rows[place - base - 1], self.taken[place - 1])
        self.logs[number] = (base, base_term, rows)
        for other, (other_base, _, other_rows) in enumerate(self.logs):
            if other != number:
                same = False
                for place in range(min(base + len(rows), other_base + len(other_rows)), max(base, other_base), -1):
                    one, two = rows[place - base - 1], other_rows[place - other_base - 1]
                    same = same or one[0] == two[0]
                    if same:
                        case.assertEqual(one, two)

    def calm(self, rounds):
        """Nothing falls or is lost any more: rounds of ticks, in which each letter comes."""
        for number in range(len(self.nodes)):
            self.disks[number].arm(None)
            self.rise(number)
        for _ in range(rounds):
            for number in range(len(self.nodes)):
                while self.way:
                    self.carry(0)
                self.call(number, "tick")
        while self.way:
            self.carry(0)


def any_act(source, cluster):
    """One act at random: ticks and letters that come make up the most of it."""
    many = len(cluster.nodes)
    number = source.randrange(many)
    chance = source.random()
    if chance < 0.3:
        cluster.call(number, "tick")
    elif chance < 0.8:
        cluster.carry(0 if source.random() < 0.7 else source.randrange(10 ** 6))
    elif chance < 0.84 and cluster.way:
        cluster.way.pop(source.randrange(len(cluster.way)))
    elif chance < 0.88 and cluster.way:
        cluster.way.append(source.choice(cluster.way))
    elif chance < 0.94:
        for place in range(many):
            cluster.put(place)
    elif chance < 0.96:
        cluster.keep(number)
    elif chance < 0.97:
        cluster.fall(number, [source.randrange(10 ** 6) for _ in range(source.randrange(3))])
    elif chance < 0.98:
        cluster.keeps[number] = [source.randrange(10 ** 6) for _ in range(source.randrange(3))]
        if cluster.nodes[number] is not None:
            cluster.disks[number].arm(source.randrange(12))
    else:
        cluster.rise(number)


class Runs(unittest.TestCase):
    """[101]: what holds at each step of any run."""

    def check_calm(self, cluster):
        """In a calm one leads, and all of them take all."""
        many = len(cluster.nodes)
        cluster.calm(8 + 6 * many)
        roles = [node.role for node in cluster.nodes]
        self.assertEqual([roles.count("leads"), roles.count("follows")], [1, many - 1])
        for _ in range(3):
            for number in range(many):
                cluster.put(number)
        cluster.calm(40)
        led = roles.index("leads")
        self.assertEqual([node.role for node in cluster.nodes], roles)
        for node in cluster.nodes:
            self.assertEqual([node.leader, node.last(), node.taken],
                             [led, cluster.nodes[led].last(), cluster.nodes[led].last()[0]])
        self.assertEqual(cluster.taken[-3:], [(node.term, ("now", cluster.puts - more)) for more in (2, 1, 0)])

    def test_runs(self):
        taken, terms, bases = 0, 0, 0
        for seed in range(90):
            with self.subTest(seed=seed):
                source = random.Random(seed)
                cluster = Cluster(self, source.choice([1, 3, 3, 5, 5]))
                for _ in range(400):
                    any_act(source, cluster)
                taken += len(cluster.taken)
                terms += len(cluster.leaders)
                bases += sum([base > 0 for base, _, _ in cluster.logs])
                self.check_calm(cluster)
        self.assertGreater(taken, 300)
        self.assertGreater(terms, 100)
        self.assertGreater(bases, 50)

    def test_runs_in_which_little_comes(self):
        """Most letters come late, or never, and many nodes ask."""
        for seed in range(60):
            with self.subTest(seed=seed):
                source = random.Random(1000 + seed)
                cluster = Cluster(self, source.choice([3, 5]))
                for _ in range(500):
                    number = source.randrange(len(cluster.nodes))
                    if source.random() < 0.5:
                        cluster.call(number, "tick")
                    elif source.random() < 0.85:
                        cluster.carry(source.randrange(10 ** 6))
                    else:
                        cluster.put(number)
                    if len(cluster.way) > 12:
                        cluster.way.pop(source.randrange(len(cluster.way)))
                    if source.random() < 0.02:
                        cluster.fall(number, [source.randrange(10 ** 6)])
                        cluster.rise(number)
                self.check_calm(cluster)

    def test_power_goes_at_each_call(self):
        """At each call on the disk of a node, with falls that keep none, some and all; the others go on."""
        for brokers, number in [(1, 0), (3, 0), (3, 1), (5, 0), (5, 3)]:
            total = self.run_with_cut(brokers, number, None, []).disks[number].ops()
            self.assertGreater(total, 30)
            for ops in range(total):
                for keeps in ([], [10 ** 6 + 3], [7]):
                    with self.subTest(brokers=brokers, number=number, ops=ops, keeps=keeps):
                        self.run_with_cut(brokers, number, ops, keeps)

    def run_with_cut(self, brokers, number, ops, keeps):
        cluster = Cluster(self, brokers)
        cluster.disks[number].arm(ops)
        cluster.keeps[number] = keeps
        for step in range(120):
            cluster.call(step % brokers, "tick")
            for place in range(6):
                cluster.carry(step * place)
            if step % 3 == 0:
                for place in range(brokers):
                    cluster.put(place)
            if step % 14 == 13:
                cluster.keep(number)
            if step % 40 == 39:
                cluster.way.clear()
                cluster.fall(step // 40 % brokers, [step])
            cluster.rise(step % brokers)
        self.assertGreater(len(cluster.taken), 5)
        return cluster

    def test_one_that_was_away(self):
        """It gets the picture, and then the rows behind it, five at a time."""
        cluster = Cluster(self, 3)
        cluster.calm(8)
        cluster.fall(2, [])
        for _ in range(30):
            cluster.put(0)
            while cluster.way:
                cluster.carry(0)
        cluster.keep(0)
        cluster.rise(2)
        self.assertEqual([cluster.nodes[2].base, cluster.nodes[0].base], [0, 16])
        self.check_calm(cluster)
        self.assertEqual(cluster.nodes[2].base, 16)

    def test_a_minority_takes_nothing(self):
        cluster = Cluster(self, 5)
        cluster.calm(8)
        held = len(cluster.taken)
        for number in (2, 3, 4):
            cluster.fall(number, [])
        for _ in range(50):
            cluster.put(0)
            cluster.call(0, "tick")
            cluster.call(1, "tick")
            while cluster.way:
                cluster.carry(0)
        self.assertEqual(len(cluster.taken), held)
        self.assertEqual(cluster.nodes[1].last(), cluster.nodes[0].last())
        self.check_calm(cluster)


if __name__ == "__main__":
    unittest.main()
