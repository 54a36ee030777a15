"""Histories: what a list of commands says of each message, told without forgetting anything."""

from inorderonce.errors import InvalidCommands, InvalidName, InvalidNumber
from inorderonce.kinds import fits, is_list_of, is_number
from inorderonce.letters import is_command
from inorderonce.lines import is_name
from inorderonce.meaning import KEY, MAKER, State


def messages(commands):
    """List all messages that are ever made, ascending by their ids."""
    return History(commands).messages


def sendings(commands, producer):
    """List the tuples of items of the sendings of a producer that count, in order."""
    history = History(commands)
    if not is_name(producer):
        raise InvalidName(producer)
    return [items for name, items in history.sendings if name == producer]


def fates(commands, group):
    """List the tuples (key, id, fate) of all messages that ever waited for a group, ascending."""
    history = History(commands)
    found = []
    for number in history.state.waiting(group):
        found.append((history.key_of(number), number, ("waits", history.state.tries(group, number))))
    for name, number, fate in history.ends:
        if name == group:
            found.append((history.key_of(number), number, fate))
    return sorted(found)


def settled(commands, group, key):
    """List the ids of the messages of a key that became done or dead for a group, in the order of this."""
    history = History(commands)
    history.state.waiting(group)
    if not is_name(key):
        raise InvalidName(key)
    return [number for name, number, _ in history.ends if name == group and history.key_of(number) == key]


def gone(commands):
    """List the ids of all messages that went, ascending."""
    return sorted(History(commands).gone)


def made_by(commands, maker):
    """List the ids of all messages with this maker, ascending."""
    history = History(commands)
    if not fits(maker, (is_name, is_number)) and not fits(maker, (is_name, is_number, _is_dead)):
        raise InvalidNumber(maker)
    return [message[0] for message in history.messages if message[MAKER] == maker]


def step(state, command):
    """Apply a command to a state and tell what came of it: (counted, messages, settled, gone).

    These are whether it counted, the messages that it made, the tuples (id, group) of all that waited for a group
    and does not any more, also of what began to wait by this very command, and the ids of what was kept and is not.
    """
    before = state.next
    kept = {topic: state.kept(topic) for topic, _ in state.topics()}
    waited = {group: state.waiting(group) for group, _, _ in state.groups()}
    counted = state.apply(command)
    made = [state.message(number) for number in range(before, state.next)]
    ends = []
    for group, topic, _ in state.groups():
        for number in waited.get(group, kept.get(topic)):
            if state.tries(group, number) is None:
                ends.append((number, group))
    went = [number for numbers in kept.values() for number in numbers if state.message(number) is None]
    return counted, made, sorted(ends), sorted(went)


class History:
    """What happens on the way as commands are applied to an empty state."""

    def __init__(self, commands):
        if not is_list_of(commands, is_command):
            raise InvalidCommands(commands)
        self.state = State()
        self.messages = []
        # The tuples (producer, items) of what was sent and counts.
        self.sendings = []
        # The tuples (group, id, fate) of all that became done or dead, in the order in which it became so.
        self.ends = []
        self.gone = []
        for command in commands:
            self._follow(command)

    def key_of(self, number):
        """Give the key of a message that was made."""
        return self.messages[number - 1][KEY]

    def _follow(self, command):
        """Apply a command, and keep in mind what came of it."""
        counted, made, ends, went = step(self.state, command)
        if counted and command[0] == "send":
            self.sendings.append((command[1], command[3]))
        self.messages.extend(made)
        for number, group in ends:
            self.ends.append((group, number, _fate(command, group, number)))
        self.gone.extend(went)


def _fate(command, group, number):
    """Tell how a message was settled for a group behind a command: by the command itself, or by time."""
    if command[1:3] != (group, number):
        return "dead", "time"
    return ("done", command[3]) if command[0] == "done" else ("dead", "tries")


def _is_dead(value):
    return value == "dead"
