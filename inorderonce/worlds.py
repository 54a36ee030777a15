"""Worlds: brokers, clients, their disks, and the letters on the way."""

from inorderonce.brokers import Broker
from inorderonce.clients import Member, Producer
from inorderonce.disks import Disk
from inorderonce.errors import (
    Fallen, InvalidAct, InvalidActs, InvalidBrokers, InvalidName, InvalidWorld, PowerCut,
)
from inorderonce.kinds import fits, has_word, is_between, is_brokers, is_count, is_list_of
from inorderonce.letters import LAST_BROKER, is_letter, is_sending
from inorderonce.lines import is_name

MOST_CLIENTS = 8


def is_act(value):
    """Judge whether this is an act of some world."""
    if not has_word(value):
        return False
    if value[0] == "make":
        return is_letter(value)
    return value[0] in ACTS and fits(value[1:], ACTS[value[0]])


class World:
    """Brokers and clients that send letters to each other, and all that may befall them."""

    def __init__(self, brokers, producers, members):
        if not is_brokers(brokers):
            raise InvalidBrokers(brokers)
        if not _are_clients(producers, is_name) or not _are_unlike(producers):
            raise InvalidWorld(producers)
        if not _are_clients(members, _is_member):
            raise InvalidWorld(members)
        if not _are_unlike(list(producers) + [member[0] for member in members]):
            raise InvalidWorld(members)
        self._brokers = brokers
        self._producers = sorted(producers)
        # For each member its tuple, ascending.
        self._members = {member[0]: member for member in sorted(members)}
        self._disks = {who: Disk() for who in list(range(brokers)) + self._producers}
        # For each disk that was cut the keeps of the last cut.
        self._keeps = {}
        # Those who stand.
        self._standing = {}
        self._letters = []
        self._answers = []
        self._log = []
        for who in list(range(brokers)) + self._producers + list(self._members):
            self._rise(who)

    def brokers(self):
        """How many brokers there are."""
        return self._brokers

    def producers(self):
        """List the names of the producers, ascending."""
        return list(self._producers)

    def members(self):
        """List the tuples (name, group, made) of the members, ascending."""
        return list(self._members.values())

    def letters(self):
        """List the letters on the way, tuples (to, letter)."""
        return list(self._letters)

    def answers(self):
        """List the letters that were carried to names that no client has, in order."""
        return list(self._answers)

    def reached(self):
        """List for each broker the index up to which it has taken, None for one that is fallen."""
        return [self.broker(who).taken if who in self._standing else None for who in range(self._brokers)]

    def log(self):
        """List all rows (term, command) that the brokers told, by their indices from 1 on."""
        return list(self._log)

    def stands(self, who):
        """Tell whether a broker or a client stands."""
        if not self._is_who(who):
            raise InvalidName(who)
        return who in self._standing

    def broker(self, number):
        """Give the broker with this number, which stands."""
        if not self._is_broker(number):
            raise InvalidName(number)
        return self._standing_one(number)

    def producer(self, name):
        """Give the producer of this name, which stands."""
        if not self._is_producer(name):
            raise InvalidName(name)
        return self._standing_one(name)

    def member(self, name):
        """Give the member of this name, which stands."""
        if not self._is_member_here(name):
            raise InvalidName(name)
        return self._standing_one(name)

    def disk(self, who):
        """Give a copy of the disk of a broker or producer."""
        if not self._is_broker(who) and not self._is_producer(who):
            raise InvalidName(who)
        return self._disks[who].copy()

    def has_act(self, act):
        """Judge whether this is an act of this world."""
        if not is_act(act):
            return False
        word, who = act[:2]
        if word == "make":
            return not self._is_who(who)
        if word == "send":
            return self._is_producer(who)
        return word in ("carry", "lose", "double") or self._is_who(who)

    def act(self, act):
        """Do one act."""
        if not self.has_act(act):
            raise InvalidAct(act)
        self._do(act)

    def run(self, acts):
        """Do a list of acts in order."""
        # All are judged ahead of doing any: a list that is refused has nothing done.
        if not isinstance(acts, (list, tuple)) or not all([self.has_act(act) for act in acts]):
            raise InvalidActs(acts)
        for act in acts:
            self._do(act)

    def _is_broker(self, value):
        return is_between(value, 0, self._brokers - 1)

    def _is_producer(self, value):
        return is_name(value) and value in self._producers

    def _is_member_here(self, value):
        return is_name(value) and value in self._members

    def _is_who(self, value):
        """Judge whether this is a broker's number or the name of a client."""
        return self._is_broker(value) or self._is_producer(value) or self._is_member_here(value)

    def _standing_one(self, who):
        """Give the broker or client itself, which stands."""
        if who not in self._standing:
            raise Fallen(who)
        return self._standing[who]

    def _do(self, act):
        """Do an act that was judged."""
        word = act[0]
        if word == "make":
            self._letters.extend([(number, act) for number in range(self._brokers)])
        elif word in ("carry", "lose", "double"):
            self._move(word, act[1])
        elif word == "rise":
            self._rise(act[1])
        elif act[1] in self._standing:
            self._befall(act)

    def _befall(self, act):
        """Do an act to one who stands."""
        word, who = act[:2]
        if word == "tick":
            self._call(who, "tick", None)
        elif word == "send":
            self._call(who, "put", act[2])
        elif word == "fall":
            self._fall(who, act[2])
        elif who in self._disks:
            self._disks[who].arm(act[2])
            self._keeps[who] = list(act[3])

    def _move(self, word, place):
        """Carry, lose or double a letter on the way, if there is any."""
        if not self._letters:
            return
        at = place % len(self._letters)
        if word == "double":
            self._letters.append(self._letters[at])
            return
        to, letter = self._letters.pop(at)
        if word == "carry":
            self._carry(to, letter)

    def _carry(self, to, letter):
        """Have a letter come to where it goes."""
        if not self._is_who(to):
            self._answers.append(letter)
        elif to in self._standing:
            self._call(to, "take", letter)

    def _rise(self, who):
        """Have one who is fallen stand again, by what lies on its disk."""
        if who in self._standing:
            return
        if self._is_broker(who):
            self._standing[who] = Broker(who, self._brokers, self._disks[who])
        elif who in self._disks:
            self._standing[who] = Producer(who, self._disks[who], self._brokers)
        else:
            name, group, made = self._members[who]
            self._standing[who] = Member(name, group, made, self._brokers)

    def _fall(self, who, keeps):
        """Have one who stands fall: what was in memory is lost."""
        if who in self._disks:
            self._disks[who].fall(keeps)
        del self._standing[who]

    def _call(self, who, word, given):
        """Have one who stands tick, take a letter or put items; if the power goes amid it, it falls at once."""
        one = self._standing[who]
        letters = []
        try:
            if word == "tick":
                letters = one.tick()
            elif word == "take":
                letters = one.take(given)
            else:
                one.put(given)
        except PowerCut:
            self._fall(who, self._keeps[who])
            return
        self._letters.extend(letters)
        if self._is_broker(who):
            self._hear(one)

    def _hear(self, broker):
        """Have the log know of the rows that a broker applied."""
        for index, term, command in broker.fresh():
            if index > len(self._log):
                self._log.append((term, command))


def _are_clients(value, judge):
    """Judge whether this is a list of so many clients at most, each as judge asks."""
    return is_list_of(value, judge) and len(value) <= MOST_CLIENTS


def _are_unlike(names):
    """Judge whether no name comes twice."""
    return len(set(names)) == len(names)


def _is_member(value):
    """Judge whether this is a tuple (name, group, made) of a member."""
    return fits(value, (is_name, is_name, _is_made))


def _is_made(value):
    return value is None or is_name(value)


# The tables below may hold only functions of this file.
def _is_who(value):
    """Judge whether some world has a broker or a client that is called so."""
    return is_between(value, 0, LAST_BROKER) or is_name(value)


def _is_count(value):
    return is_count(value)


def _is_count_or_none(value):
    return value is None or is_count(value)


def _are_counts(value):
    return is_list_of(value, is_count)


def _is_name(value):
    return is_name(value)


def _is_sending(value):
    return is_sending(value)


# For each word but "make" what stands behind it.
ACTS = {
    "tick": (_is_who,),
    "carry": (_is_count,),
    "lose": (_is_count,),
    "double": (_is_count,),
    "fall": (_is_who, _are_counts),
    "cut": (_is_who, _is_count_or_none, _are_counts),
    "rise": (_is_who,),
    "send": (_is_name, _is_sending),
}
