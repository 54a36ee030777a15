"""Producers and members: those who use the queue, and ask again until they are answered."""

from inorderonce.disks import Disk
from inorderonce.errors import InvalidBrokers, InvalidDisk, InvalidItems, InvalidLetter, InvalidName, InvalidText
from inorderonce.frames import framed
from inorderonce.kinds import fits, has_word, is_brokers, is_number
from inorderonce.letters import MOST_OF_BODY, client_of, is_sending, side
from inorderonce.lines import is_name, is_text, line
from inorderonce.logs import new_file, values_on

BEGIN_OF_NAME = "mine-"
TICKS_TO_WAIT = 5
TICKS_TO_REST = 3


class Asking:
    """Which broker a client believes in, and when it asks again."""

    def __init__(self, brokers):
        self._brokers = brokers
        self._believed = 0
        # How many ticks ago the letter went out last; None if it is to go out in the next tick.
        self._ticks = None

    def renew(self):
        """Have the letter go out in the next tick, to the broker that is believed in."""
        self._ticks = None

    def send(self, letter):
        """List the letter, which goes out now."""
        self._ticks = 0
        return [(self._believed, letter)]

    def tick(self, letter):
        """List the letter if it goes out in this tick."""
        if self._ticks is None:
            return self.send(letter)
        self._ticks = self._ticks + 1
        if self._ticks < TICKS_TO_WAIT:
            return []
        self._believe_next()
        return self.send(letter)

    def go_elsewhere(self, leader):
        """Believe in the one who is said to lead, if there is such a broker, or in the next one for -1."""
        if leader >= self._brokers:
            return
        if leader == -1:
            self._believe_next()
        else:
            self._believed = leader
        self.renew()

    def _believe_next(self):
        self._believed = (self._believed + 1) % self._brokers


class Producer:
    """Sends what it was handed, one sending after the other, and keeps all of it on a disk."""

    def __init__(self, name, disk, brokers):
        if not is_name(name):
            raise InvalidName(name)
        if not isinstance(disk, Disk):
            raise InvalidDisk(disk)
        if not is_brokers(brokers):
            raise InvalidBrokers(brokers)
        self.name = name
        self._disk = disk
        # The file that is written to; None until something is written.
        self._file = None
        # The items of all sendings, in the order of their numbers, and how many of these are acked.
        self._sendings = []
        self._acked = 0
        self._asking = Asking(brokers)
        for value in values_on(disk, BEGIN_OF_NAME):
            self._follow(value)

    def put(self, items):
        """Keep a sending, and return its number."""
        if not is_sending(items):
            raise InvalidItems(items)
        self._write(("mine", self.last() + 1, items))
        return self.last()

    def unacked(self):
        """List the tuples (number, items) of all sendings that are not acked, ascending."""
        return list(enumerate(self._sendings[self._acked:], self._acked + 1))

    def last(self):
        """Give the number of the last sending, 0 without."""
        return len(self._sendings)

    def tick(self):
        """Let time go by, and return the letters that go out."""
        if self._acked == self.last():
            return []
        return self._asking.tick(("send", self.name, self._acked + 1, self._sendings[self._acked]))

    def take(self, letter):
        """Take the letter of a broker, and return the letters that go out: none."""
        _judge_letter(letter, self.name)
        if self._acked == self.last() or letter[2] != self._acked + 1:
            return []
        if letter[0] == "ok":
            self._write(("acked", letter[2]))
            self._asking.renew()
        elif letter[0] == "elsewhere":
            self._asking.go_elsewhere(letter[3])
        return []

    def _write(self, entry):
        """Write an entry and sync it, then do what it tells."""
        if self._file is None:
            self._file = new_file(self._disk, BEGIN_OF_NAME)
        self._disk.write(self._file, framed(line(entry)))
        self._disk.sync(self._file)
        self._follow(entry)

    def _follow(self, entry):
        """Do what a value tells that was found or written, if it is an entry that counts."""
        if not has_word(entry):
            return
        if entry[0] == "mine" and fits(entry[1:], (is_number, is_sending)):
            if entry[1] == self.last() + 1:
                self._sendings.append(entry[2])
        elif entry[0] == "acked" and fits(entry[1:], (is_number,)):
            if entry[1] == self._acked + 1 and entry[1] <= self.last():
                self._acked = entry[1]


class Member:
    """Takes messages of a group one by one, works, and says that it is done, or not."""

    def __init__(self, name, group, made, brokers):
        for value in (name, group):
            if not is_name(value):
                raise InvalidName(value)
        if made is not None and not is_name(made):
            raise InvalidName(made)
        if not is_brokers(brokers):
            raise InvalidBrokers(brokers)
        self.name = name
        self.group = group
        self.made = made
        self._asking = Asking(brokers)
        # The number of the last ask, and the letter that is not answered yet, or None.
        self._ask = 0
        self._letter = None
        # For how many ticks it rests on.
        self._rest = 0
        self._told = []

    def work(self, key, body):
        """Do what a message asks for: give the tuple of the items that are made of it, or "nay"."""
        if not is_name(key):
            raise InvalidName(key)
        if not is_text(body, MOST_OF_BODY):
            raise InvalidText(body)
        if body.startswith("x"):
            return "nay"
        if self.made is None or len(body) < 2:
            return ()
        return ((self.made, key, body[:len(body) // 2], 0, 0, 0),)

    def tick(self):
        """Let time go by, and return the letters that go out."""
        if self._rest > 0:
            self._rest = self._rest - 1
            return []
        if self._letter is None:
            self._letter = ("want", self.name, self._next_ask(), self.group)
            return self._asking.send(self._letter)
        return self._asking.tick(self._letter)

    def take(self, letter):
        """Take the letter of a broker, and return the letters that go out."""
        _judge_letter(letter, self.name)
        if self._letter is None or letter[2] != self._letter[2]:
            return []
        if letter[0] == "elsewhere":
            self._asking.go_elsewhere(letter[3])
            return []
        if self._letter[0] == "want":
            return self._take_for_want(letter)
        if letter[0] in ("yes", "stale") and letter[3:] == self._letter[3:6]:
            self._told.append((letter[4], letter[0]))
            self._letter = None
        return []

    def holds(self):
        """Give the tuple (group, id) of what it has told of, but got no answer to yet, or None."""
        if self._letter is None or self._letter[0] == "want":
            return None
        return self._letter[3:5]

    def told(self):
        """List the tuples (id, word) of the answers to what it told, in order."""
        return list(self._told)

    def _next_ask(self):
        self._ask = self._ask + 1
        return self._ask

    def _take_for_want(self, letter):
        """Take an answer to a "want", and work if this hands out a message."""
        if letter[0] == "none":
            self._letter = None
            self._rest = TICKS_TO_REST
        if letter[0] != "give" or letter[3] != self.group:
            return []
        _, _, _, group, number, token, _, key, body = letter
        items = self.work(key, body)
        if items == "nay":
            self._letter = ("nay", self.name, self._next_ask(), group, number, token)
        else:
            self._letter = ("done", self.name, self._next_ask(), group, number, token, items)
        return self._asking.send(self._letter)


def _judge_letter(letter, name):
    """Raise unless this is a letter to the client of this name."""
    if side(letter) != "answers" or client_of(letter) != name:
        raise InvalidLetter(letter)
