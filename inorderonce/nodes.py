"""Nodes: each keeps a log, and sees with the others to it that what is taken is one list of rows."""

from inorderonce.errors import (
    InvalidBrokers, InvalidCommand, InvalidCount, InvalidLetter, InvalidNumber, NoRow, NotLeading,
)
from inorderonce.kinds import is_between, is_brokers, is_count, is_list_of
from inorderonce.letters import MOST_OF_ROWS, is_command, side
from inorderonce.lines import line, read_line
from inorderonce.logs import Log

PATIENCE = 6
MORE_PATIENCE = 3


def most_reach(counts):
    """Give the greatest count that more than half of these are not below."""
    if not is_list_of(counts, is_count) or len(counts) == 0:
        raise InvalidCount(counts)
    return sorted(counts, reverse=True)[len(counts) // 2]


class Node:
    """One of several brokers' nodes, with the log that lies on its disk."""

    def __init__(self, number, brokers, disk):
        if not is_brokers(brokers):
            raise InvalidBrokers(brokers)
        if not is_between(number, 0, brokers - 1):
            raise InvalidNumber(number)
        self._log = Log(disk)
        self.number = number
        self.role = "follows"
        self.leader = None
        self.patience = 0
        self.taken = self._log.base
        self.term = self._log.term
        self.base = self._log.base
        self._others = [other for other in range(brokers) if other != number]
        # While it asks: who said yes.
        self._yes = {}
        # While it leads: for each of the others the index of the row that it gets next, and up to where it has all.
        self._next_of = {}
        self._has_of = {}

    def last(self):
        """Give the tuple (index, term) of the last row, or of the base where there are no rows."""
        return self._log.last()

    def row(self, index):
        """Give the row with this index."""
        return self._log.row(index)

    def term_at(self, index):
        """Give the term of a row or of the base, or None."""
        return self._log.term_at(index)

    def picture(self):
        """Give the picture of the base."""
        return self._log.picture

    def tick(self):
        """Let time go by, and return the letters that go out."""
        if self.role == "leads":
            return self._send_all()
        self.patience = self.patience + 1
        if self.patience <= PATIENCE + MORE_PATIENCE * self.number:
            return []
        return self._ask()

    def take(self, letter):
        """Take a letter of another node, and return the letters that go out."""
        if side(letter) != "brokers" or letter[2] not in self._others:
            raise InvalidLetter(letter)
        if letter[1] > self.term:
            self._vote(letter[1], None)
            self.role = "follows"
            self.leader = None
        word = letter[0]
        if word == "ask":
            return self._take_ask(letter)
        if word == "vote":
            return self._take_vote(letter)
        if word == "rows":
            return self._take_rows(letter)
        if word == "got":
            return self._take_got(letter)
        return self._take_whole(letter)

    def put(self, command):
        """Put a row behind the log of the one that leads; return its index and the letters that go out."""
        if not is_command(command):
            raise InvalidCommand(command)
        if self.role != "leads":
            raise NotLeading(self.leader)
        index = self._log.put(self.term, command)
        self._look_at_taken()
        return index, self._send_all()

    def keep(self, index, picture):
        """Keep a picture in the place of the taken rows up to an index."""
        if not is_between(index, self.base + 1, self.taken):
            raise NoRow(index)
        self._log.keep(index, picture)
        self.base = self._log.base

    def _vote(self, term, who):
        """Have the log write a term and the vote in it."""
        self._log.vote(term, who)
        self.term = term

    def _is_most(self, many):
        """Judge whether so many are more than half of all brokers."""
        return 2 * many > len(self._others) + 1

    def _ask(self):
        """Ask all others whether it may lead."""
        self._vote(self.term + 1, self.number)
        self.role = "asks"
        self.leader = None
        self.patience = 0
        self._yes = {self.number: True}
        if self._is_most(1):
            return self._lead()
        index, of = self.last()
        return [(other, ("ask", self.term, self.number, index, of)) for other in self._others]

    def _lead(self):
        """Become leader, and put a row of the own term."""
        self.role = "leads"
        self.leader = self.number
        index, _ = self.last()
        self._next_of = {other: index + 1 for other in self._others}
        self._has_of = {other: 0 for other in self._others}
        _, letters = self.put(("now", 0))
        return letters

    def _follow(self, leader):
        """Follow the one that leads in the own term."""
        self.role = "follows"
        self.leader = leader
        self.patience = 0

    def _send_all(self):
        """List the letters to all others of what they lack."""
        return [self._send(other) for other in self._others]

    def _send(self, other):
        """Give the letter to another one of what it lacks, as far as one letter goes."""
        index = self._next_of[other]
        if index <= self.base:
            text = line(self.picture())
            return other, ("whole", self.term, self.number, self.base, self._log.base_term, text)
        rows = tuple(self._log.rows_from(index, MOST_OF_ROWS))
        return other, ("rows", self.term, self.number, index - 1, self.term_at(index - 1), rows, self.taken)

    def _look_at_taken(self):
        """Take all up to the greatest index that most have, if a row of the own term is there."""
        index, _ = self.last()
        reach = most_reach([index] + list(self._has_of.values()))
        own = [place for place in range(self.taken + 1, reach + 1) if self.term_at(place) == self.term]
        if own:
            self.taken = own[-1]

    def _got(self, sender, yes, index):
        """List the one letter that answers the rows or the picture that were sent."""
        return [(sender, ("got", self.term, self.number, yes, index))]

    def _take_ask(self, letter):
        _, term, sender, index, of = letter
        last, last_term = self.last()
        if term < self.term or self._log.voted not in (None, sender) or (of, index) < (last_term, last):
            return [(sender, ("vote", self.term, self.number, False))]
        if self._log.voted is None:
            self._vote(term, sender)
        self.patience = 0
        return [(sender, ("vote", self.term, self.number, True))]

    def _take_vote(self, letter):
        _, term, sender, yes = letter
        if self.role != "asks" or term != self.term or not yes:
            return []
        self._yes[sender] = True
        return self._lead() if self._is_most(len(self._yes)) else []

    def _take_rows(self, letter):
        _, term, sender, ahead, of, rows, told = letter
        if term < self.term:
            return self._got(sender, False, 0)
        self._follow(sender)
        end = ahead + len(rows)
        if end <= self.base:
            return self._got(sender, True, end)
        if ahead < self.base:
            rows = rows[self.base - ahead:]
            ahead = self.base
            of = self._log.base_term
        if self.term_at(ahead) != of:
            return self._got(sender, False, self.taken)
        self._add_rows(ahead, rows)
        self.taken = max(self.taken, min(told, end))
        return self._got(sender, True, end)

    def _add_rows(self, ahead, rows):
        """Have the log bear these rows behind an index, and cut those that are others."""
        for index, (term, command) in enumerate(rows, ahead + 1):
            held = self.term_at(index)
            if held == term:
                continue
            if held is not None:
                self._log.cut(index)
            self._log.put(term, command)

    def _take_got(self, letter):
        _, term, sender, yes, index = letter
        if self.role != "leads" or term != self.term:
            return []
        if not yes:
            self._next_of[sender] = max(self._has_of[sender], index) + 1
            return [self._send(sender)]
        grew = index > self._has_of[sender]
        self._has_of[sender] = max(self._has_of[sender], index)
        self._next_of[sender] = max(self._next_of[sender], index + 1)
        self._look_at_taken()
        last, _ = self.last()
        return [self._send(sender)] if grew and self._next_of[sender] <= last else []

    def _take_whole(self, letter):
        _, term, sender, index, of, text = letter
        if term < self.term:
            return self._got(sender, False, 0)
        self._follow(sender)
        if index > self.taken:
            self._log.swap(index, of, read_line(text))
            self.base = index
            self.taken = index
        return self._got(sender, True, index)
