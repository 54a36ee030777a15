"""Points [6], [7] and [183] to [188]: the desk, its news and what it shows."""

import random

from inorderonce.actlines import act_line, read_act
from inorderonce.calm import calm
from inorderonce.clients import Producer
from inorderonce.desk import Desk
from inorderonce.errors import InvalidBrokers, InvalidText, InvalidWorld
from inorderonce.histories import fates
from inorderonce.lines import line, read_line
from inorderonce.meaning import fold
from inorderonce.worlds import World
from tests.support import NO_BROKERS, STRANGE, Case, any_act, any_world, nest, warm_acts

LEAD = "\n".join(["tick 0"] * 7)
MADE = "make ops 1 topic jobs\ncarry 0\nmake ops 2 topic dead\ncarry 1\nmake ops 3 group crew jobs dead\ncarry 2"
EMPTY = ["lose 0"] * 3


def leading(producers=("ann",), members=(("bob", "crew", None),), script=MADE):
    """A desk of one broker that leads, behind a script; all answers are lost."""
    desk = Desk(1, producers, members)
    desk.do(LEAD + "\n" + script)
    while " letters 0 " not in [row for row in desk.show() if row.startswith("time ")][0]:
        desk.do("lose 0")
    return desk


class Done(Case):
    """[183], [184]: scripts."""

    def test_script(self):
        desk = Desk(brokers=1, producers=["ann"], members=[("bob", "crew", None)])
        self.assertEqual([desk.script(), desk.do(""), desk.script()], ["", [], ""])
        self.assertEqual([desk.do("tick 0"), desk.script()], [[], "tick 0"])
        self.assertEqual([desk.do(text="tick bob\ncalm 0\ncarry 0"), desk.script()],
                         [[], "tick 0\ntick bob\ncalm 0\ncarry 0"])
        self.assertEqual([desk.do(""), desk.script().count("\n")], [[], 3])
        lines = ["fall 0 5 3", "cut ann - 0 0", 'send ann jobs k "a, \\"b\\" \\\\" 0 0 0', "make ops 7 topic jobs last",
                 "rise 0"]
        desk.do("\n".join(lines))
        self.assertEqual(desk.script().split("\n")[4:], lines)

    def test_a_world_of_its_own(self):
        producers, members = ["ann"], [("bob", "crew", None)]
        one, other = Desk(1, producers, members), Desk(1, producers, members)
        one.do(LEAD)
        producers.clear()
        members.clear()
        self.assertEqual([other.script(), other.show()[0]],
                         ["", "broker 0 follows term 0 taken 0 base 0 last 0 leader -"])
        self.assertEqual(one.do("tick ann\ntick bob"), [])
        one.show().clear()
        self.assertEqual(len(one.show()), 4)

    def test_raises_as_a_world_does(self):
        for brokers in NO_BROKERS:
            self.assert_given(InvalidBrokers, brokers, Desk, brokers, None, None)
        for producers in (None, "ann", [None], ["ann", "ann"], ["Ann"], ["a", "b", "c", "d", "e", "f", "g", "h", "i"]):
            self.assert_given(InvalidWorld, producers, Desk, 3, producers, None)
        for members in (None, [None], [("ann", "crew", None)], [("bob", "crew")], [["bob", "crew", None]]):
            self.assert_given(InvalidWorld, members, Desk, brokers=3, members=members, producers=["ann"])

    def test_no_texts(self):
        desk = leading()
        before = (desk.show(), desk.script())
        for value in [*STRANGE, 0, 1, (), ("tick 0",), ["tick 0"], b"tick 0", ("tick", 0), nest(1000)]:
            self.assert_given(InvalidText, value, desk.do, value)
            self.assert_given(InvalidText, value, desk.do, text=value)
        self.assertEqual((desk.show(), desk.script()), before)

    def test_lines_of_no_deed(self):
        """The first wrong line is told, wherever it stands, and nothing is done."""
        desk = leading()
        before = (desk.show(), desk.script())
        for text in ["x", " ", "tick", "tick 1", "tick joe", "tick crew", "rise 2", "fall 4", "cut joe - 1", "carry",
                     "carry 03", "carry -1", "tick 0 ", " tick 0", "send bob " + 'jobs k "" 0 0 0',
                     'send ann jobs k "" 0 0', "make ann 1 topic jobs", "make bob 1 topic jobs", "calm", "calm ",
                     "calm -1", "calm 01", "calm 00", "calm x", "calm 1 1", "calm  1", "calm 1 ", " calm 1", "Calm 1",
                     "calm +1", "calm 1000000000000000", "calm " + "1" * 16, "calm 1.0", "calm ~", "calm\t1",
                     "tick 0\r", "tick 0;", "do", "show"]:
            for script in (text, f"{text}\ntick 1", f"tick 0\n{text}", f"tick 0\n{text}\n",
                           f"tick 0\ncalm 3\n{text}\ntick 0\nx y",
                           f"{text}\n\n"):
                self.check_refused(desk, script, text)
        self.assertEqual((desk.show(), desk.script()), before)

    def check_refused(self, desk, script, words):
        with self.assertRaises(InvalidText) as caught:
            desk.do(script)
        self.assertIs(type(caught.exception), InvalidText)
        self.assertEqual(caught.exception.given, words)

    def test_empty_lines(self):
        """An empty line is the line of no deed, also one ahead of all and one behind the last line feed."""
        desk = leading()
        before = (desk.show(), desk.script())
        for script in ("\n", "\ntick 0", "tick 0\n", "tick 0\n\ntick 0", "\n\n", "tick 0\n\ntick 9"):
            self.check_refused(desk, script, "")
        self.check_refused(desk, "tick 0\ntick 9\n", "tick 9")
        self.assertEqual((desk.show(), desk.script()), before)

    def test_counts_of_rounds(self):
        """Of at most 15 digits."""
        desk = Desk(1, [], [])
        self.assertEqual(desk.do("calm 0"), [])
        self.check_refused(desk, "calm 999999999999999\ntick 1", "tick 1")
        self.assertEqual(desk.do("calm 10")[0], "leads 0 1")
        self.assertEqual(desk.script(), "calm 0\ncalm 10")

    def test_a_name_like_a_word(self):
        desk = Desk(1, ["calm"], [("tick", "carry", None)])
        self.assertEqual(desk.do('tick calm\ntick tick\nsend calm a b "" 0 0 0\ncalm 0\nfall tick'), ["fallen tick"])


class News(Case):
    """[185], [186]: each kind of line."""

    def test_fallen_and_risen(self):
        desk = Desk(3, ["joe", "ann"], [("cy", "crew", None)])
        self.assertEqual([desk.do(f"fall {who}") for who in ("joe", "2", "cy", "0", "ann")],
                         [["fallen joe"], ["fallen 2"], ["fallen cy"], ["fallen 0"], ["fallen ann"]])
        self.assertEqual([desk.do("fall 2"), desk.do("tick 2\nrise 1\ntick ann")], [[], []])
        self.assertEqual(desk.do("rise 2\nrise 2\nrise joe"), ["risen 2", "risen joe"])
        # In one deed: brokers ascending, and then clients by name.
        desk.do("fall joe\nfall 1")
        self.assertEqual(desk.do("calm 1"), ["risen 0", "risen 1", "risen ann", "risen cy", "risen joe"])

    def test_fallen_by_a_cut(self):
        desk = Desk(1, ["ann"], [])
        self.assertEqual([desk.do("cut ann 1 7"), desk.do('send ann jobs k "" 0 0 0'), desk.do("rise ann")],
                         [[], ["fallen ann"], ["risen ann"]])
        self.assertEqual(desk.show()[-1], "producer ann put 0 acked 0")

    def test_leads(self):
        desk = Desk(1, [], [])
        self.assertEqual([desk.do("\n".join(["tick 0"] * 6)), desk.do("tick 0"), desk.do("tick 0")],
                         [[], ["leads 0 1", 'row 1 1 ("now" 0)'], []])
        # In another term it leads anew.
        self.assertEqual(desk.do("fall 0\nrise 0\n" + LEAD), ["fallen 0", "risen 0", "leads 0 2", 'row 2 2 ("now" 0)'])

    def test_leads_anew_within_one_deed(self):
        """It led ahead of the deed and behind it, but in another term."""
        desk = Desk(3, [], [])
        desk.do("calm 7\n" + "\n".join(["tick 2"] * 13) + "\nlose 0\nlose 0")
        self.assertEqual([desk.show()[at].split(" ")[:5] for at in (0, 2)],
                         [["broker", "0", "leads", "term", "1"], ["broker", "2", "asks", "term", "2"]])
        news = desk.do("calm 9")
        self.assertEqual([news[0], desk.show()[0].split(" ")[:5]], ["leads 0 3", ["broker", "0", "leads", "term", "3"]])
        self.assertEqual(desk.do("calm 1"), [])

    def test_rows_in_order(self):
        """Rows that are told by one deed come one after the other, each with what it brought behind it."""
        desk = Desk(3, ["ann"], [])
        desk.do("calm 7")
        desk.do("make ops 1 topic jobs\nmake ops 2 topic more\ncarry 0\nlose 0\nlose 0\ncarry 0\nlose 0\nlose 0")
        news = desk.do("calm 1")
        rows = [words for words in news if words.startswith("row ")]
        self.assertEqual(rows, ['row 2 1 ("topic" "jobs" !)', 'row 3 1 ("topic" "more" !)'])
        self.assertEqual([words for words in news if words.startswith("answer ")],
                         ['answer ("made" "ops" 1)', 'answer ("made" "ops" 2)'])
        self.assertEqual([desk.do("calm 1"), desk.do("calm 0")], [[], []])

    def test_made_and_gone(self):
        desk = leading()
        desk.do('send ann jobs k "a" 0 0 0, none k "b" 0 0 0, dead z "c" 0 0 0, jobs m "d" 3 0 0')
        items = '("jobs" "k" "a" 0 0 0) ("none" "k" "b" 0 0 0) ("dead" "z" "c" 0 0 0) ("jobs" "m" "d" 3 0 0)'
        self.assertEqual(desk.do("tick ann\ncarry 0"),
                         [f'row 5 1 ("send" "ann" 1 ({items}))', "made 1 jobs k", "made 2 dead z", "made 3 jobs m"])
        self.assertEqual(desk.do("tick bob\ncarry 1"), ["holds bob crew 3 1 1"])
        self.assertEqual(desk.do("carry 1\ncarry 1"), ['row 6 1 ("done" "crew" 3 (1 1) ())', "done crew 3", "gone 3"])

    def test_failed_and_dead(self):
        desk = leading()
        desk.do('send ann jobs k "xa" 0 0 0\ntick ann\ncarry 0\ncarry 0')
        for tries in range(5):
            news = desk.do("calm 1")
            rest = [f"failed crew 1 {tries + 1}"] if tries < 4 else ["made 2 dead k", "dead crew 1", "gone 1"]
            place = [at for at, words in enumerate(news) if words.endswith(f'("failed" "crew" 1 {tries})')]
            self.assertEqual(news[place[0] + 1:place[0] + 1 + len(rest)], rest)

    def test_a_row_that_does_not_count(self):
        """It has its own line alone."""
        desk = Desk(1, ["ann"], [("bob", "crew", None)])
        desk.do(LEAD + "\n" + MADE + '\nsend ann jobs k "a" 0 0 0\ntick ann\ncarry 3')
        self.assertEqual(desk.do("fall 0\nrise 0\n" + LEAD)[2:], ["leads 0 2", 'row 6 2 ("now" 0)'])

    def test_a_row_that_failed_already(self):
        """A leader by whose state it has not failed yet adds one more "failed": this doesn't count, and has no line."""
        desk = Desk(3, ["ann"], [("bob", "crew", None)])
        world = World(3, ["ann"], [("bob", "crew", None)])

        def do(*lines):
            for words in lines:
                if words.startswith("calm "):
                    calm(world, int(words[5:]))
                elif words.startswith("to "):
                    # The first letter to this one with this word is carried.
                    _, to, word = words.split(" ")
                    places = [at for at, (who, letter) in enumerate(world.letters())
                              if str(who) == to and letter[0] == word]
                    words = f"carry {places[0]}"
                    world.act(read_act(words))
                else:
                    world.act(read_act(words))
                told.extend(desk.do(words))

        told = []
        do("calm 7", "make ops 1 topic jobs", "calm 1", "make ops 2 group crew jobs", "calm 4", "fall bob", "rise bob")
        do('send ann jobs k "xx" 0 0 0', "tick ann", "to 0 send", "to 1 rows", "to 0 got", "tick bob", "to 0 want",
           "to bob give", "to 0 nay", "to 1 rows", "fall 0", *["tick 1"] * 10, "to 2 ask", "to 1 vote")
        do("fall bob", "rise bob", *["tick bob"] * 6, "to 1 want", "to bob give", "to 1 nay")
        told.clear()
        do("calm 3")
        rows = [at for at, words in enumerate(told) if words.endswith('("failed" "crew" 1 0)')]
        self.assertEqual(len(rows), 2)
        self.assertEqual(told[rows[0] + 1], "failed crew 1 1")
        self.assertFalse(told[rows[1] + 1].startswith(("failed", "done", "dead", "made", "gone")))

    def test_dead_behind_the_row_that_makes_the_group(self):
        """What was kept in the topic of a group that is made, and does not wait behind it."""
        desk = Desk(1, ["ann"], [])
        desk.do(LEAD + "\nmake ops 1 topic jobs\ncarry 0\nlose 0\nmake ops 2 topic dead\ncarry 0\nlose 0\n"
                'send ann jobs k "a" 0 0 2, jobs m "b" 0 0 0, jobs k "c" 0 0 1\ntick ann\ncarry 0\nlose 0')
        self.assertEqual(desk.do("tick 0\ntick 0\ntick 0\ntick 0"), ['row 5 1 ("now" 4)'])
        self.assertEqual(desk.do("make ops 3 group crew jobs dead\ncarry 0"), [
            'row 6 1 ("group" "crew" "jobs" "dead")', "made 4 dead k", "made 5 dead k", "dead crew 1", "dead crew 3",
            "gone 1",
            "gone 3"])

    def test_dead_by_time_in_order(self):
        """By id and then by group; a done of one message, and what dies behind it."""
        desk = Desk(1, ["ann"], [("bob", "crew", None)])
        desk.do(LEAD + "\nmake ops 1 topic jobs\ncarry 0\nmake ops 2 group crew jobs\ncarry 1\n"
                "make ops 3 group band jobs\ncarry 2\n"
                'send ann jobs k "a" 0 0 0, jobs k "b" 0 0 2, jobs m "c" 0 0 3\ntick ann\ncarry 3\ntick bob\ncarry 4\n'
                "tick 0\ntick 0\ntick 0")
        self.assertEqual(desk.do("tick 0"), ['row 6 1 ("now" 4)', "dead band 3", "dead crew 3", "gone 3"])
        self.assertEqual(desk.do("carry 4\ncarry 4"),
                         ['row 7 1 ("done" "crew" 1 (1 1) ())', "done crew 1", "dead crew 2"])

    def test_holds(self):
        """A lease that is there anew; not one that was there already, and not one that is gone."""
        desk = Desk(1, ["ann"], [("bob", "crew", None), ("eve", "crew", None)])
        desk.do(LEAD + "\nmake ops 1 topic jobs\ncarry 0\nmake ops 2 group crew jobs\ncarry 1\nlose 0\nlose 0\n"
                'send ann jobs k "a" 0 0 0, jobs m "b" 0 0 0\ntick ann\ncarry 0\nlose 0')
        self.assertEqual(desk.do("tick bob\ndouble 0\ncarry 0\ncarry 0"), ["holds bob crew 1 1 1"])
        self.assertEqual(desk.do("lose 0\nlose 0\ntick eve\ncarry 0"), ["holds eve crew 2 1 2"])
        ends = desk.do("\n".join(["tick 0"] * 8))
        self.assertEqual([words for words in ends if words.startswith(("failed", "holds"))],
                         ["failed crew 1 1", "failed crew 2 1"])
        self.assertEqual(desk.do("lose 0\nrise bob\nfall bob\nrise bob\ntick bob\ncarry 0"),
                         ["fallen bob", "risen bob", "holds bob crew 1 1 3"])

    def test_order_of_a_deed(self):
        """Who rose, who leads, the rows with what they brought, who holds what, the answers."""
        desk = Desk(1, ["ann"], [("bob", "crew", None)])
        news = desk.do("calm 7\nmake ops 1 topic jobs\ncalm 1\nmake ops 2 group crew jobs\ncalm 1\n"
                       'send ann jobs k "a" 0 0 0\nfall bob\ncalm 2')
        self.assertEqual([words for words in news if not words.startswith("row ")], [
            "leads 0 1", 'answer ("made" "ops" 1)', 'answer ("made" "ops" 2)', "fallen bob", "risen bob",
            "made 1 jobs k",
            "done crew 1", "gone 1"])
        desk = Desk(1, ["ann"], [("bob", "crew", None)])
        desk.do("make ops 1 topic jobs\nmake ops 2 topic jobs\nfall ann")
        self.assertEqual(desk.do("calm 8"), [
            "risen ann", "leads 0 1", 'row 1 1 ("now" 0)', 'answer ("elsewhere" "ops" 1 -1)',
            'answer ("elsewhere" "ops" 2 -1)'])

    def test_answers_of_all_names(self):
        desk = Desk(1, [], [])
        carry = "\n".join(["carry 0"] * 4)
        self.assertEqual(desk.do("make ops 4 topic jobs\nmake zed 5 group crew jobs dead\n" + carry),
                         ['answer ("elsewhere" "ops" 4 -1)', 'answer ("elsewhere" "zed" 5 -1)'])


class Shown(Case):
    """[187]: what a desk shows."""

    def test_at_first(self):
        desk = Desk(3, ["joe", "ann"], [("eve", "crew", "more"), ("bob", "crew", None)])
        follows = "follows term 0 taken 0 base 0 last 0 leader -"
        self.assertEqual(desk.show(), [
            f"broker 0 {follows}", f"broker 1 {follows}", f"broker 2 {follows}",
            "time 0 next 1 rows 0 letters 0 answers 0",
            "producer ann put 0 acked 0", "producer joe put 0 acked 0", "member bob crew - holds -",
            "member eve crew more holds -"])

    def test_brokers(self):
        desk = Desk(3, [], [])
        desk.do("\n".join(["tick 0"] * 7) + "\ncarry 0\ncarry 1")
        self.assertEqual(desk.show()[:3], ["broker 0 leads term 1 taken 0 base 0 last 1 leader 0",
                                           "broker 1 follows term 1 taken 0 base 0 last 0 leader -",
                                           "broker 2 follows term 0 taken 0 base 0 last 0 leader -"])
        desk.do("calm 1\nfall 0\n" + "\n".join(["tick 1"] * 10))
        self.assertEqual(desk.show()[:3], ["broker 0 fallen", "broker 1 asks term 2 taken 1 base 0 last 1 leader -",
                                           "broker 2 follows term 1 taken 1 base 0 last 1 leader 0"])
        desk.do("calm 30")
        leads = [row for row in desk.show()[:3] if " leads " in row]
        self.assertEqual(len(leads), 1)
        self.assertNotIn(" base 0 ", leads[0])

    def test_state(self):
        """By all rows that are told, whoever is fallen."""
        desk = Desk(1, ["ann"], [("bob", "crew", None)])
        desk.do(LEAD + "\nmake ops 1 topic jobs\ncarry 0\nmake ops 2 topic dead last\ncarry 1\n"
                "make ops 3 group crew jobs dead\ncarry 2\nmake ops 4 group band jobs\ncarry 3\n"
                "carry 0\ncarry 0\ncarry 0")
        desk.do('send ann jobs k "a" 0 0 0, jobs m "xb" 0 0 0, dead k "" 0 0 0\ntick ann\ncarry 1\ntick bob\ncarry 2\n'
                "carry 2\ncarry 2\nmake ops 9 topic jobs\nfall 0")
        self.assertEqual(desk.show(), [
            "broker 0 fallen", "time 0 next 4 rows 7 letters 4 answers 3", "topic dead last kept 1",
            "topic jobs all kept 2",
            "group band jobs - waits 2 done 0 dead 0", "group crew jobs dead waits 1 done 1 dead 0",
            "producer ann put 1 acked 0",
            "member bob crew - holds 1"])
        desk.do("fall bob")
        self.assertEqual(desk.show()[-1], "member bob crew - fallen")

    def test_time_and_dead(self):
        desk = leading()
        desk.do('send ann jobs k "a" 0 0 3\ntick ann\ncarry 0\ntick 0\ntick 0\ntick 0\ntick 0')
        self.assertEqual(desk.show()[1:5],
                         ["time 4 next 3 rows 6 letters 1 answers 0", "topic dead all kept 1", "topic jobs all kept 0",
                                            "group crew jobs dead waits 0 done 0 dead 1"])

    def test_clients(self):
        """Producers by what lies on their disks."""
        desk = leading(("ann", "cy"), (("bob", "crew", "dead"), ("joe", "gang", None)))
        send = 'send ann jobs k "a" 0 0 0'
        desk.do(f"{send}\n{send}\n{send}\ntick ann\ncarry 0\ncarry 0\nfall joe")
        self.assertEqual(desk.show()[-4:],
                         ["producer ann put 3 acked 1", "producer cy put 0 acked 0", "member bob crew dead holds -",
                                            "member joe gang - fallen"])
        desk.do("fall ann\ntick bob\ncarry 0\ncarry 0")
        self.assertEqual(desk.show()[-4:-1],
                         ["producer ann put 3 acked 1 fallen", "producer cy put 0 acked 0",
                          "member bob crew dead holds 1"])
        desk.do('cut cy 1 9\nsend cy jobs k "a" 0 0 0')
        self.assertEqual(desk.show()[-3], "producer cy put 0 acked 0 fallen")


class Plain:
    """The news and the show of a desk told once more, plainly, by [185] to [187]."""

    def __init__(self, brokers, producers, members):
        self.world = World(brokers, producers, members)

    def look(self):
        world = self.world
        whos = [*range(world.brokers()), *sorted([*world.producers(), *[name for name, _, _ in world.members()]])]
        brokers = {number: world.broker(number) for number in range(world.brokers()) if world.stands(number)}
        led = {number: broker.term for number, broker in brokers.items() if broker.role == "leads"}
        leases = [(number, *lease[:4]) for number in led for lease in brokers[number].leases()]
        return {who: world.stands(who) for who in whos}, led, leases, len(world.log()), len(world.answers())

    def do(self, words):
        stood, led, leases, rows, answers = self.look()
        if words.startswith("calm "):
            calm(self.world, int(words[5:]))
        else:
            self.world.act(read_act(words))
        stands, leads, holds, _, _ = self.look()
        news = [f"fallen {who}" for who in stands if stood[who] and not stands[who]]
        news += [f"risen {who}" for who in stands if not stood[who] and stands[who]]
        news += [f"leads {who} {term}" for who, term in leads.items() if led.get(who) != term]
        commands = [command for _, command in self.world.log()]
        for index in range(rows + 1, len(commands) + 1):
            term, command = self.world.log()[index - 1]
            news.append(f"row {index} {term} {line(command)}")
            news.extend(self.row_news(fold(commands[:index - 1]), fold(commands[:index]), command))
        news += [f"holds {member} {group} {number} {term} {count}" for who, group, number, member,
                 (term, count) in holds
                 if (who, group, number, member, (term, count)) not in leases]
        return news + [f"answer {line(letter)}" for letter in self.world.answers()[answers:]]

    def row_news(self, before, behind, command):
        news = []
        for number in range(before.next, behind.next):
            news.append(f"made {number} {behind.message(number)[1]} {behind.message(number)[2]}")
        ended = []
        for group, topic, _ in behind.groups():
            if group in [row[0] for row in before.groups()]:
                waited = before.waiting(group)
                for number in waited:
                    tries = behind.tries(group, number)
                    if tries not in (None, before.tries(group, number)):
                        news.append(f"failed {group} {number} {tries}")
            else:
                waited = before.kept(topic)
            ended.extend([(number, group) for number in waited if number not in behind.waiting(group)])
        for number, group in sorted(ended):
            end = "done" if command[0] == "done" and command[1:3] == (group, number) else "dead"
            news.append(f"{end} {group} {number}")
        kept = [number for topic, _ in before.topics() for number in before.kept(topic)]
        return news + [f"gone {number}" for number in sorted(kept) if behind.message(number) is None]

    def show(self):
        world, rows = self.world, []
        for number in range(world.brokers()):
            if not world.stands(number):
                rows.append(f"broker {number} fallen")
                continue
            one = world.broker(number)
            rows.append(" ".join(["broker", str(number), one.role, "term", str(one.term), "taken", str(one.taken),
                                  "base", str(one.base),
                                  "last", str(one.last()[0]), "leader",
                                  "-" if one.leader is None else str(one.leader)]))
        state = fold([command for _, command in world.log()])
        parts = ["time", state.now, "next", state.next, "rows", len(world.log()), "letters", len(world.letters()),
                 "answers", len(world.answers())]
        rows.append(" ".join([str(part) for part in parts]))
        rows += [f"topic {topic} {['all', 'last'][last]} kept {len(state.kept(topic))}" for topic,
                 last in state.topics()]
        for group, topic, dead in state.groups():
            done, buried = state.counts(group)
            waits = len(state.waiting(group))
            rows.append(f"group {group} {topic} {dead or '-'} waits {waits} done {done} dead {buried}")
        for name in world.producers():
            one = Producer(name, world.disk(name), 1)
            fallen = "" if world.stands(name) else " fallen"
            rows.append(f"producer {name} put {one.last()} acked {one.last() - len(one.unacked())}{fallen}")
        for name, group, made in world.members():
            rows.append(f"member {name} {group} {made or '-'} fallen")
            if world.stands(name):
                rows[-1] = f"member {name} {group} {made or '-'} holds {(world.member(name).holds() or '--')[1]}"
        return rows


class Runs(Case):
    """[188], and all of [185] to [187] in whole runs."""

    def any_script(self, seed, many, calms):
        """A world and the lines of deeds that were drawn for it."""
        source = random.Random(seed)
        parts = any_world(source)
        world, lines = World(*parts), []

        def do(words):
            lines.append(words)
            if words.startswith("calm "):
                calm(world, int(words[5:]))
            else:
                world.act(read_act(words))

        for act in warm_acts(world) if seed % 4 else []:
            while act is None and world.letters():
                do("carry 0")
            if act is not None:
                do(act_line(act))
        for _ in range(many):
            if calms and source.random() < 0.04:
                do(f"calm {source.choice([0, 1, 1, 2, 3, 9])}")
            elif source.random() < 0.3:
                do(f"tick {source.randrange(world.brokers())}")
                while world.letters():
                    do("carry 0")
            else:
                do(act_line(any_act(source, world, 0.04)))
        return parts, lines, world

    def test_runs(self):
        words = {}
        for seed in range(60):
            with self.subTest(seed=seed):
                parts, lines, world = self.any_script(seed, 30 + 2 * seed, seed % 2)
                plain, desk = Plain(*parts), Desk(*parts)
                news = []
                for at, words_of in enumerate(lines):
                    told = desk.do(words_of)
                    self.assertEqual(told, plain.do(words_of))
                    news.extend(told)
                    if at % 9 == 0:
                        self.assertEqual(desk.show(), plain.show())
                self.assertEqual([desk.show(), desk.script()], [plain.show(), "\n".join(lines)])
                self.check_again(parts, desk, news, seed)
                self.check_order(news, world, any([text.startswith("calm ") for text in lines]))
                for text in news:
                    words[text.split(" ")[0]] = words.get(text.split(" ")[0], 0) + 1
        self.assertGreater(min([words[word] for word in ("fallen", "risen", "leads", "row", "made", "failed", "done",
                                                         "dead", "gone",
                                                          "holds", "answer")]), 4, words)

    def check_again(self, parts, desk, news, seed):
        """The script as a whole, and in pieces, brings the same."""
        whole = Desk(*parts)
        self.assertEqual(whole.do(desk.script()), news)
        self.assertEqual([whole.show(), whole.script()], [desk.show(), desk.script()])
        lines, pieces, told = desk.script().split("\n"), Desk(*parts), []
        for start in range(0, len(lines), seed + 2):
            told.extend(pieces.do("\n".join(lines[start:start + seed + 2])))
        self.assertEqual([told, pieces.show(), pieces.script()], [news, desk.show(), desk.script()])

    def check_order(self, news, world, calms):
        """[9] by the lines alone: of each key a beginning, in order, each once; a "holds" ahead of each "done"."""
        commands = [command for _, command in world.log()]
        ends, held, row = {}, [], None
        for text in news:
            words = text.split(" ")
            if words[0] == "row":
                row = read_line(text.split(" ", 3)[3])
            if words[0] in ("done", "dead"):
                ends.setdefault(words[1], []).append((int(words[2]), words[0]))
            if words[0] == "holds":
                held.append((words[2], int(words[3]), (int(words[4]), int(words[5]))))
            if words[0] == "done" and not calms:
                self.assertIn((words[1], int(words[2]), row[3]), held)
        for group, _, _ in fold(commands).groups():
            told = fates(commands, group)
            for key in {key for key, _, _ in told}:
                of_key = [(number, fate[0]) for name, number, fate in told if name == key]
                settled = [end for end in ends.get(group, []) if end[0] in [number for number, _ in of_key]]
                self.assertEqual(settled, of_key[:len(settled)])
                self.assertEqual(len(settled), len([1 for _, fate in of_key if fate != "waits"]))


if __name__ == "__main__":
    import unittest
    unittest.main()
