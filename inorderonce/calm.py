"""Calm: nothing falls and no letter is lost any more, and what is left comes to its end."""

from inorderonce.clients import Producer
from inorderonce.errors import InvalidCount, InvalidName, InvalidWorld
from inorderonce.kinds import is_count
from inorderonce.lines import is_name
from inorderonce.logs import log_meaning
from inorderonce.meaning import BODY, FROM, MAKER, TOPIC, UNTIL, fold
from inorderonce.worlds import World


def calm(world, rounds):
    """Do so many rounds of calm on a world."""
    _judge(world)
    if not is_count(rounds):
        raise InvalidCount(rounds)
    for _ in range(rounds):
        _do_round(world)


def left(world):
    """How many sendings are not acked, and messages wait for a group that has a member."""
    _judge(world)
    state = _folded(world)
    groups = [group for _, group, _ in world.members()]
    waiting = [len(state.waiting(group)) for group, _, _ in state.groups() if group in groups]
    return sum(waiting) + sum([len(sendings) for sendings in _unacked(world)])


def pairs(world, topic, signs, dead):
    """For how many groups a message of a topic, of so many signs, and all that is made of it may wait at most."""
    _judge(world)
    if not is_name(topic):
        raise InvalidName(topic)
    if not is_count(signs):
        raise InvalidCount(signs)
    return Pairs(world, _folded(world)).count(topic, signs, dead)


def enough(world):
    """How many rounds of calm are enough for nothing to be left."""
    _judge(world)
    state = _folded(world)
    found = Pairs(world, state)
    unacked = _unacked(world)
    times = [0]
    waits = 0
    for message in _kept(state):
        times.extend([message[FROM] - state.now, message[UNTIL] - state.now])
        waits = waits + found.count(message[TOPIC], len(message[BODY]), len(message[MAKER]) == 3)
    for topic, _, body, _, delay, span in _items(unacked):
        times.extend([delay, span])
        waits = waits + found.count(topic, len(body), False)
    most = max([0] + [len(sendings) for sendings in unacked])
    return 20 + 6 * world.brokers() + most + max(times) + 8 * waits


class Pairs:
    """For how many groups messages may wait in a world, as it is."""

    def __init__(self, world, state):
        self._readers = _readers(world, state)
        self._members = world.members()
        # What was counted already: else one and the same would be counted over and over.
        self._counted = {}

    def count(self, topic, signs, dead):
        """For how many groups a message, and all that is made of it, may wait at most."""
        if (topic, signs, dead) not in self._counted:
            total = 0
            for group, read, buried in self._readers:
                if read == topic:
                    total = total + 1 + self._count_behind(group, buried, signs, dead)
            self._counted[(topic, signs, dead)] = total
        return self._counted[(topic, signs, dead)]

    def _count_behind(self, group, buried, signs, dead):
        """For how many groups may wait what is made of a message when a group has settled it."""
        counts = [0]
        if not dead and buried is not None:
            counts.append(self.count(buried, signs, True))
        for _, name, made in self._members:
            if signs >= 2 and name == group and made is not None:
                counts.append(self.count(made, signs // 2, False))
        return max(counts)


def _judge(world):
    """Raise unless this is a world."""
    if not isinstance(world, World):
        raise InvalidWorld(world)


def _do_round(world):
    """Do one round of calm."""
    brokers = list(range(world.brokers()))
    clients = sorted(world.producers() + [name for name, _, _ in world.members()])
    for who in brokers + world.producers():
        world.act(("cut", who, None, []))
    for who in brokers + clients:
        world.act(("rise", who))
    _carry_all(world)
    for who in brokers + clients:
        world.act(("tick", who))
        _carry_all(world)


def _carry_all(world):
    """Carry letters until none is on the way."""
    while world.letters():
        world.act(("carry", 0))


def _folded(world):
    """Give the state behind all rows that are taken."""
    return fold([command for _, command in world.log()])


def _unacked(world):
    """List for each producer what is not acked by what lies on its disk."""
    brokers = world.brokers()
    return [Producer(name, world.disk(name), brokers).unacked() for name in world.producers()]


def _items(unacked):
    """List all items of what is not acked."""
    return [item for sendings in unacked for _, items in sendings for item in items]


def _kept(state):
    """List all kept messages."""
    return [state.message(number) for topic, _ in state.topics() for number in state.kept(topic)]


def _readers(world, state):
    """List the unlike tuples (group, topic, dead) of all groups that are there, or may come to be."""
    readers = {reader: True for reader in state.groups()}
    for command in _commands_around(world):
        if command[0] == "group":
            readers[command[1:]] = True
    return list(readers)


def _commands_around(world):
    """List the commands on the way and on the disks of the brokers."""
    commands = []
    for _, letter in world.letters():
        if letter[0] == "make":
            commands.append(letter[3])
        elif letter[0] == "rows":
            commands.extend([command for _, command in letter[5]])
    for number in range(world.brokers()):
        _, _, _, _, _, rows = log_meaning(world.disk(number))
        commands.extend([command for _, command in rows])
    return commands
