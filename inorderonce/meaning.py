"""The meaning of rows: a state, changed by one command after the other."""

from inorderonce.errors import InvalidCommand, InvalidCommands, NoGroup, NoTopic
from inorderonce.kinds import is_integer, is_list_of
from inorderonce.letters import is_command
from inorderonce.lines import is_name

# The places of what a message tells.
TOPIC = 1
KEY = 2
BODY = 3
PRIORITY = 4
FROM = 5
UNTIL = 6
MAKER = 7
TRIES_OF_DEAD = 5


class State:
    """What the rows that were applied mean: topics, groups, messages, and who waits for them."""

    def __init__(self):
        self.now = 0
        self.next = 1
        # For each topic whether it keeps the last ones.
        self._topics = {}
        # For each group the topic that it reads, and the one for its dead.
        self._groups = {}
        # For each producer its last number.
        self._numbers = {}
        # For each group how many are done, and how many are dead.
        self._counts = {}
        # The kept messages by their ids, ascending.
        self._messages = {}
        # For each group the tries of what waits for it, by ids, ascending.
        self._tries = {}
        # For each group and key the ids that wait, ascending. Only the first of them is ever settled.
        self._queues = {}
        # For each kept message how many groups it waits for.
        self._waits = {}

    def __eq__(self, other):
        return (
            isinstance(other, State) and self.now == other.now and self.next == other.next
            and self._topics == other._topics and self._groups == other._groups and self._numbers == other._numbers
            and self._counts == other._counts and self._messages == other._messages and self._tries == other._tries
        )

    def apply(self, command):
        """Do what a command tells, and settle what comes of it; return whether the command counted."""
        if not is_command(command):
            raise InvalidCommand(command)
        return self._follow(command)

    def topics(self):
        """List the tuples (topic, whether it keeps the last ones)."""
        return sorted(self._topics.items())

    def groups(self):
        """List the tuples (group, the topic that it reads, the topic for its dead or None)."""
        return [(group, topic, dead) for group, (topic, dead) in sorted(self._groups.items())]

    def producers(self):
        """List the tuples (producer, last number)."""
        return sorted(self._numbers.items())

    def kept(self, topic):
        """List the ids of the kept messages of a topic."""
        if not is_name(topic) or topic not in self._topics:
            raise NoTopic(topic)
        return [number for number, message in self._messages.items() if message[TOPIC] == topic]

    def message(self, number):
        """Give the kept message with this id, or None."""
        return self._messages.get(number) if is_integer(number) else None

    def waiting(self, group):
        """List the ids that wait for a group."""
        self._judge_group(group)
        return list(self._tries[group])

    def tries(self, group, number):
        """Give the tries of what waits for a group, or None."""
        self._judge_group(group)
        return self._tries[group].get(number) if is_integer(number) else None

    def first(self, group, key):
        """Give the id of the first message of a key for a group, or None."""
        self._judge_group(group)
        if not is_name(key) or key not in self._queues[group]:
            return None
        return self._queues[group][key][0]

    def counts(self, group):
        """Give how many messages were ever done and ever dead for a group."""
        self._judge_group(group)
        return self._counts[group]

    def copy(self):
        """Give an equal state of its own."""
        other = State()
        other.now = self.now
        other.next = self.next
        other._topics = dict(self._topics)
        other._groups = dict(self._groups)
        other._numbers = dict(self._numbers)
        other._counts = dict(self._counts)
        other._messages = dict(self._messages)
        other._tries = {group: dict(tries) for group, tries in self._tries.items()}
        other._queues = {
            group: {key: list(numbers) for key, numbers in queues.items()} for group, queues in self._queues.items()
        }
        other._waits = dict(self._waits)
        return other

    def _judge_group(self, group):
        """Raise unless this is a group of the state."""
        if not is_name(group) or group not in self._groups:
            raise NoGroup(group)

    def _follow(self, command):
        """Do all that comes of a command, and return whether it counted."""
        counted = self._do(command)
        self._bury_overdue()
        self._let_go()
        return counted

    def _do(self, command):
        """Do what a command itself tells, if it counts, and return whether it does."""
        word = command[0]
        if word == "topic":
            return self._do_topic(command)
        if word == "group":
            return self._do_group(command)
        if word == "send":
            return self._do_send(command)
        if word == "done":
            return self._do_done(command)
        if word == "failed":
            return self._do_failed(command)
        return self._do_now(command)

    def _do_topic(self, command):
        _, topic, last = command
        if topic in self._topics:
            return False
        self._topics[topic] = last
        return True

    def _do_group(self, command):
        _, group, topic, dead = command
        if group in self._groups or topic not in self._topics:
            return False
        if dead is not None and dead not in self._topics:
            return False
        self._add_group(group, topic, dead, (0, 0))
        for number in self.kept(topic):
            self._wait(group, number, 0)
        return True

    def _do_send(self, command):
        _, producer, number, items = command
        if number != self._numbers.get(producer, 0) + 1:
            return False
        self._numbers[producer] = number
        self._make_all(items, (producer, number))
        return True

    def _do_done(self, command):
        _, group, number, _, items = command
        if not self._is_first(group, number):
            return False
        self._settle(group, number)
        done, dead = self._counts[group]
        self._counts[group] = (done + 1, dead)
        self._make_all(items, (group, number))
        return True

    def _do_failed(self, command):
        _, group, number, tries = command
        if not self._is_first(group, number) or self._tries[group][number] != tries:
            return False
        self._tries[group][number] = tries + 1
        if tries + 1 == TRIES_OF_DEAD:
            self._bury(group, number)
        return True

    def _do_now(self, command):
        _, time = command
        if time <= self.now:
            return False
        self.now = time
        return True

    def _is_first(self, group, number):
        """Judge whether there is this group, and the message is the first one of its key for it."""
        if group not in self._groups or number not in self._tries[group]:
            return False
        return self.first(group, self._messages[number][KEY]) == number

    def _make_all(self, items, maker):
        """Make messages of those items whose topic is there."""
        for topic, key, body, priority, delay, span in items:
            if topic in self._topics:
                until = self.now + span if span > 0 else 0
                self._make(topic, key, body, priority, self.now + delay, until, maker)

    def _make(self, topic, key, body, priority, since, until, maker):
        """Make a message, which waits for each group that reads its topic."""
        number = self.next
        self.next = number + 1
        self._add_message((number, topic, key, body, priority, since, until, maker))
        for group, (read, _) in self._groups.items():
            if read == topic:
                self._wait(group, number, 0)

    def _add_group(self, group, topic, dead, counts):
        self._groups[group] = (topic, dead)
        self._counts[group] = counts
        self._tries[group] = {}
        self._queues[group] = {}

    def _add_message(self, message):
        self._messages[message[0]] = message
        self._waits[message[0]] = 0

    def _wait(self, group, number, tries):
        """Have a message wait for a group behind all that waits for it."""
        self._tries[group][number] = tries
        self._queues[group].setdefault(self._messages[number][KEY], []).append(number)
        self._waits[number] = self._waits[number] + 1

    def _settle(self, group, number):
        """Have the first message of a key wait for the group no more."""
        key = self._messages[number][KEY]
        del self._tries[group][number]
        self._queues[group][key].pop(0)
        if not self._queues[group][key]:
            del self._queues[group][key]
        self._waits[number] = self._waits[number] - 1

    def _bury(self, group, number):
        """Have the first message of a key be dead for the group."""
        self._settle(group, number)
        done, dead = self._counts[group]
        self._counts[group] = (done, dead + 1)
        message = self._messages[number]
        _, topic = self._groups[group]
        # What was made for the dead makes nothing further: else it might go round for ever.
        if topic is not None and len(message[MAKER]) == 2:
            self._make(topic, message[KEY], message[BODY], 0, self.now, 0, (group, number, "dead"))

    def _bury_overdue(self):
        """Have all be dead that is overdue, in the order that is told."""
        overdue = self._overdue()
        while overdue:
            number, group = min(overdue)
            self._bury(group, number)
            # The one behind it may be overdue, too, and come ahead of the others.
            overdue = self._overdue()

    def _overdue(self):
        """List the tuples (id, group) of all that is overdue."""
        found = []
        for group, queues in self._queues.items():
            for numbers in queues.values():
                if 0 < self._messages[numbers[0]][UNTIL] <= self.now:
                    found.append((numbers[0], group))
        return found

    def _let_go(self):
        """Have those messages go that nobody waits for any more, nor may ever."""
        read = {topic: True for topic, _ in self._groups.values()}
        idle = [number for number, message in self._messages.items()
                if self._waits[number] == 0 and message[TOPIC] in read]
        if not idle:
            return
        # Ids ascend: the last one of a key that is met here is the greatest.
        last = {(message[TOPIC], message[KEY]): number for number, message in self._messages.items()}
        for number in idle:
            topic, key = self._messages[number][TOPIC], self._messages[number][KEY]
            if not self._topics[topic] or last[(topic, key)] != number:
                del self._messages[number]
                del self._waits[number]


def fold(commands):
    """Give the state behind a list of commands."""
    if not is_list_of(commands, is_command):
        raise InvalidCommands(commands)
    state = State()
    for command in commands:
        state._follow(command)
    return state


def state_of_parts(now, following, topics, groups, messages, producers):
    """Give the state of which a picture tells these parts, which the caller has judged."""
    state = State()
    state.now = now
    state.next = following
    state._topics = dict(topics)
    state._numbers = dict(producers)
    for message in messages:
        state._add_message(message)
    for group, topic, dead, done, buried, waiting in groups:
        state._add_group(group, topic, dead, (done, buried))
        for number, tries in waiting:
            state._wait(group, number, tries)
    return state
