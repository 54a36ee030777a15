"""Brokers: each is a node, the state behind the taken rows, and, while it leads, leases and answers that are due."""

from inorderonce.errors import InvalidLetter, InvalidLine, NoGroup
from inorderonce.leases import Leases
from inorderonce.letters import GREATEST, side
from inorderonce.meaning import BODY, KEY, TOPIC, State
from inorderonce.nodes import Node
from inorderonce.pictures import picture, read_state, state_of
from inorderonce.turns import eligible

ROWS_TO_KEEP = 6
TICKS_TO_TELL = 4
TIME_OF_LEASE = 8


class Broker:
    """One of several brokers, with the log that lies on its disk."""

    def __init__(self, number, brokers, disk):
        self._node = Node(number, brokers, disk)
        self._state = State() if self._node.base == 0 else state_of(self._node.picture())
        self.role = self._node.role
        self.leader = self._node.leader
        self.term = self._node.term
        self.taken = self._node.taken
        self.base = self._node.base
        self.applied = self._node.base
        self._fresh = []
        # While it leads: who holds what, and for each open row its command and the letter that it answers, or None.
        self._leases = Leases()
        self._opened = {}
        # Since it became leader: the time, the ticks, and how many messages were handed out.
        self._time = 0
        self._ticks = 0
        self._given = 0

    def last(self):
        """Give the tuple (index, term) of the last row, or of the base where there are no rows."""
        return self._node.last()

    def row(self, index):
        """Give the row with this index."""
        return self._node.row(index)

    def state(self):
        """Give a copy of the state behind the rows that were applied."""
        return self._state.copy()

    def leases(self):
        """List the tuples (group, id, member, token, end) of all leases."""
        return self._leases.listed()

    def fresh(self):
        """List the tuples (index, term, command) of the rows that were applied since this was asked last."""
        rows = self._fresh
        self._fresh = []
        return rows

    def tick(self):
        """Let time go by, and return the letters that go out."""
        if self.applied - self.base >= ROWS_TO_KEEP:
            self._node.keep(self.applied, picture(self._state))
        letters = self._node.tick()
        if self.role == "leads":
            letters = letters + self._pass_time()
        return letters + self._catch_up()

    def take(self, letter):
        """Take a letter of another broker or of a client, and return the letters that go out."""
        between = side(letter)
        if between == "answers" or not _may_be_followed(letter):
            raise InvalidLetter(letter)
        if between == "brokers":
            letters = self._node.take(letter)
        elif self.role == "leads":
            letters = self._serve(letter)
        else:
            letters = self._send_elsewhere(letter)
        return letters + self._catch_up()

    def _pass_time(self):
        """Have the time of the one that leads go on, with the rows that come of it."""
        self._time = min(self._time + 1, GREATEST)
        self._ticks = self._ticks + 1
        letters = []
        if self._ticks % TICKS_TO_TELL == 0:
            letters.extend(self._add(("now", self._time), None))
        for group, number in self._leases.ended(self._time):
            letters.extend(self._fail(group, number, None))
        return letters

    def _add(self, command, letter):
        """Add a row, which is open from now on, for a letter or for none."""
        index, letters = self._node.put(command)
        self._opened[index] = (command, letter)
        return letters

    def _fail(self, group, number, letter):
        """Add the row that a message failed, unless a row that settles it is open."""
        return self._settle(("failed", group, number, self._state.tries(group, number)), letter)

    def _settle(self, command, letter):
        """Add a "done" or "failed" row, unless one for this message is open."""
        for held, _ in self._opened.values():
            if held[0] in ("done", "failed") and held[1:3] == command[1:3]:
                return []
        return self._add(command, letter)

    def _send_elsewhere(self, letter):
        """Tell a client which broker leads, as far as it is known."""
        leader = -1 if self.leader is None else self.leader
        return [(letter[1], ("elsewhere", letter[1], letter[2], leader))]

    def _serve(self, letter):
        """Do what the one that leads does with the letter of a client."""
        word = letter[0]
        if word == "send":
            return self._serve_send(letter)
        if word == "want":
            return self._serve_want(letter)
        if word == "make":
            return self._serve_make(letter)
        return self._serve_settling(letter)

    def _serve_send(self, letter):
        _, producer, number, _ = letter
        counted = dict(self._state.producers()).get(producer, 0)
        if number <= counted:
            return [(producer, ("ok", producer, number))]
        opened = [held[2] for held, _ in self._opened.values() if held[:2] == ("send", producer)]
        if number == max([counted] + opened) + 1:
            return self._add(letter, letter)
        return []

    def _serve_want(self, letter):
        _, member, ask, group = letter
        if self._leases.of(member, group) is None:
            self._lease(member, group)
        lease = self._leases.of(member, group)
        if lease is None:
            return [(member, ("none", member, ask))]
        number, token = lease
        message = self._state.message(number)
        parts = (message[TOPIC], message[KEY], message[BODY])
        return [(member, ("give", member, ask, group, number, token, *parts))]

    def _lease(self, member, group):
        """Have a member hold the first message that may be handed out to a group, if there is any."""
        held = self._leases.held(group)
        try:
            free = [number for number in eligible(self._state, group) if number not in held]
        except NoGroup:
            free = []
        if free:
            self._given = self._given + 1
            self._leases.give(member, group, free[0], (self.term, self._given), self._time + TIME_OF_LEASE)

    def _serve_settling(self, letter):
        """Take a "done" or "nay"."""
        word, member, ask, group, number, token = letter[:6]
        if self._leases.of(member, group) != (number, token):
            return [(member, ("stale", member, ask, group, number, token))]
        if word == "nay":
            return self._fail(group, number, letter)
        return self._settle(("done", group, number, token, letter[6]), letter)

    def _serve_make(self, letter):
        _, client, ask, command = letter
        topics = [topic for topic, _ in self._state.topics()]
        groups = [group for group, _, _ in self._state.groups()]
        if command[1] in (topics if command[0] == "topic" else groups):
            return [(client, ("made", client, ask))]
        if command[0] == "group" and (command[2] not in topics or command[3] not in [None] + topics):
            return []
        if command[:2] in [held[:2] for held, _ in self._opened.values()]:
            return []
        return self._add(command, letter)

    def _catch_up(self):
        """Do what each call ends with, and return the answers to the open rows that were taken."""
        led = self.role == "leads"
        self._tell_node()
        if self.role != "leads":
            self._leases = Leases()
            self._opened = {}
        if self.base > self.applied:
            self._state = state_of(self._node.picture())
            self.applied = self.base
        letters = []
        for index in range(self.applied + 1, self.taken + 1):
            letters.extend(self._apply(index))
        for group, number, _, _, _ in self._leases.listed():
            if self._state.tries(group, number) is None:
                self._leases.drop(group, number)
        if self.role == "leads" and not led:
            self._begin_to_lead()
        return letters

    def _tell_node(self):
        """Have the attributes be those of the node."""
        self.role = self._node.role
        self.leader = self._node.leader
        self.term = self._node.term
        self.taken = self._node.taken
        self.base = self._node.base

    def _apply(self, index):
        """Apply a taken row to the state, and return the answer to it if it was open."""
        term, command = self._node.row(index)
        counted = self._state.apply(command)
        self.applied = index
        self._fresh.append((index, term, command))
        if index not in self._opened:
            return []
        _, letter = self._opened.pop(index)
        if command[0] in ("done", "failed"):
            self._leases.drop(command[1], command[2])
        return _answer(letter, counted)

    def _begin_to_lead(self):
        """Begin to count anew, behind all times that the log knows."""
        last, _ = self.last()
        rows = [self.row(index) for index in range(self.base + 1, last + 1)]
        self._time = max([self._state.now] + [command[1] for _, command in rows if command[0] == "now"])
        self._ticks = 0
        self._given = 0


def _may_be_followed(letter):
    """Judge whether the state in a letter, if there is to be one, is one."""
    if letter[0] != "whole":
        return True
    try:
        read_state(letter[5])
    except InvalidLine:
        return False
    return True


def _answer(letter, counted):
    """List the answer to the letter for which a row was added, by whether this counted."""
    if letter is None:
        return []
    word, client, ask = letter[:3]
    if word == "send":
        return [(client, ("ok", client, ask))]
    if word == "make":
        return [(client, ("made", client, ask))]
    return [(client, ("yes" if counted else "stale", *letter[1:6]))]
