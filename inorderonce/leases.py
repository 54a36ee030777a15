"""Leases: who holds which message for how long."""

from inorderonce.errors import Held, InvalidCount, InvalidName, InvalidNumber
from inorderonce.kinds import is_count, is_integer, is_number
from inorderonce.letters import is_token
from inorderonce.lines import is_name


class Leases:
    """Who holds which message for a group, until it is dropped."""

    def __init__(self):
        # For each group and id the member, its token, and the end of the lease.
        self._leases = {}
        # For each group and member the id that it holds.
        self._numbers = {}

    def give(self, member, group, number, token, end):
        """Have a member hold a message for a group from now on."""
        for name in (member, group):
            if not is_name(name):
                raise InvalidName(name)
        if not is_number(number):
            raise InvalidNumber(number)
        if not is_token(token):
            raise InvalidNumber(token)
        if not is_count(end):
            raise InvalidCount(end)
        if (group, number) in self._leases:
            raise Held(group, number)
        if (group, member) in self._numbers:
            raise Held(group, self._numbers[(group, member)])
        self._leases[(group, number)] = (member, token, end)
        self._numbers[(group, member)] = number

    def of(self, member, group):
        """Give the tuple (id, token) of what a member holds for a group, or None."""
        if not is_name(member) or not is_name(group) or (group, member) not in self._numbers:
            return None
        number = self._numbers[(group, member)]
        _, token, _ = self._leases[(group, number)]
        return number, token

    def holder(self, group, number):
        """Give the tuple (member, token) of the one who holds a message for a group, or None."""
        if not self._is_held(group, number):
            return None
        member, token, _ = self._leases[(group, number)]
        return member, token

    def held(self, group):
        """List the ids that are held for a group, ascending."""
        return sorted([number for name, number in self._leases if name == group])

    def drop(self, group, number):
        """Have nobody hold a message for a group any more, and return whether somebody did."""
        if not self._is_held(group, number):
            return False
        member, _, _ = self._leases[(group, number)]
        del self._leases[(group, number)]
        del self._numbers[(group, member)]
        return True

    def ended(self, time):
        """List the tuples (group, id) of the leases whose end is not above this time, ascending."""
        if not is_count(time):
            raise InvalidCount(time)
        return sorted([place for place, (_, _, end) in self._leases.items() if end <= time])

    def listed(self):
        """List the tuples (group, id, member, token, end) of all leases, ascending."""
        rows = [(group, number, *lease) for (group, number), lease in self._leases.items()]
        return sorted(rows)

    def _is_held(self, group, number):
        """Judge whether anyone holds this message for this group."""
        return is_name(group) and is_integer(number) and (group, number) in self._leases
