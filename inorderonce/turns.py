"""Who is next: which of the messages that wait for a group may be handed out now."""

from inorderonce.errors import InvalidNumber, InvalidState
from inorderonce.kinds import is_integer, is_list_of
from inorderonce.lines import is_name
from inorderonce.meaning import FROM, KEY, PRIORITY, State


def eligible(state, group):
    """List the ids of all that may be handed out to a group now, found among all that waits for it."""
    if not isinstance(state, State):
        raise InvalidState(state)
    found = []
    for number in state.waiting(group):
        message = state.message(number)
        if state.first(group, message[KEY]) == number and message[FROM] <= state.now:
            found.append((-message[PRIORITY], number))
    return [number for _, number in sorted(found)]


class Turns:
    """A state, with what may be handed out at hand."""

    def __init__(self, state=None):
        if state is not None and not isinstance(state, State):
            raise InvalidState(state)
        self._meaning = State() if state is None else state.copy()
        # For each group that was asked for since the state changed, what waits by its keys, and what is eligible.
        self._queues = {}
        self._ready = {}

    def apply(self, command):
        """Apply a command to the state, and return whether it counted."""
        counted = self._meaning.apply(command)
        # What a command that doesn't count is followed by may change the state all the same.
        self._queues = {}
        self._ready = {}
        return counted

    def state(self):
        """Give a copy of the state."""
        return self._meaning.copy()

    def eligible(self, group):
        """List the ids of all that may be handed out to a group now."""
        return list(self._ready_for(group))

    def first(self, group, passed):
        """Give the first id that may be handed out to a group now and is not among passed, or None."""
        ready = self._ready_for(group)
        if not is_list_of(passed, is_integer):
            raise InvalidNumber(passed)
        for number in ready:
            if number not in passed:
                return number
        return None

    def rank(self, group, number):
        """Give the place of an id among all that may be handed out to a group now, or None."""
        ready = self._ready_for(group)
        if not is_integer(number) or number not in ready:
            return None
        return ready.index(number)

    def by_key(self, group):
        """List the tuples (key, tuple of the ids that wait for a group), ascending by the keys."""
        queues = self._queues_of(group)
        return [(key, tuple(queues[key])) for key in sorted(queues)]

    def _queues_of(self, group):
        """Give for each key the ids that wait for a group, ascending, found anew only if the state changed."""
        if not is_name(group) or group not in self._queues:
            queues = {}
            for number in self._meaning.waiting(group):
                queues.setdefault(self._meaning.message(number)[KEY], []).append(number)
            self._queues[group] = queues
        return self._queues[group]

    def _ready_for(self, group):
        """Give the ids of all that may be handed out to a group now, found anew only if the state changed."""
        queues = self._queues_of(group)
        if group not in self._ready:
            firsts = [self._meaning.message(numbers[0]) for numbers in queues.values()]
            found = [(-message[PRIORITY], message[0]) for message in firsts if message[FROM] <= self._meaning.now]
            self._ready[group] = [number for _, number in sorted(found)]
        return self._ready[group]
