"""Disks: files of signs, of which a fall keeps what was synced, and of the rest a beginning."""

from inorderonce.errors import InvalidCount, InvalidKeeps, InvalidName, InvalidText, NoFile, PowerCut
from inorderonce.kinds import is_count, is_list_of
from inorderonce.lines import is_signs

SIGNS_OF_NAME = "abcdefghijklmnopqrstuvwxyz0123456789-"
MOST_OF_NAME = 12


class Disk:
    """Files that are written and synced, until the power goes."""

    def __init__(self):
        # For each name the text of the file, and how many of its signs are synced.
        self._files = {}
        self._ops = 0
        # How many calls the power is still there for; None where it does not go.
        self._power = None

    def __eq__(self, other):
        return isinstance(other, Disk) and self._files == other._files

    def write(self, name, text):
        """Put a text behind what a file holds; make the file if it isn't there."""
        if not _is_file_name(name):
            raise InvalidName(name)
        if not is_signs(text) or text == "":
            raise InvalidText(text)
        self._use_power()
        held, signs = self._files.get(name, ("", 0))
        self._files[name] = (held + text, signs)

    def read(self, name):
        """Give the whole text of a file, synced or not."""
        text, _ = self._found(name)
        return text

    def names(self):
        """List the names of the files that are there, ascending."""
        return sorted(self._files)

    def sync(self, name):
        """Have all that a file holds synced."""
        text, _ = self._found(name)
        self._use_power()
        self._files[name] = (text, len(text))

    def synced(self, name):
        """How many signs of a file are synced."""
        _, signs = self._found(name)
        return signs

    def drop(self, name):
        """Take a file away for good."""
        self._found(name)
        self._use_power()
        del self._files[name]

    def fall(self, keeps):
        """Cut off of each file as much of what was not synced as keeps tells; the power is there behind it."""
        if not is_list_of(keeps, is_count):
            raise InvalidKeeps(keeps)
        left = {}
        for place, name in enumerate(self.names()):
            text, signs = self._files[name]
            if keeps:
                signs = signs + keeps[place % len(keeps)] % (len(text) - signs + 1)
            if signs > 0:
                left[name] = (text[:signs], signs)
        self._files = left
        self._power = None
        self._ops = self._ops + 1

    def arm(self, ops):
        """Have the power go behind so many further calls; with None it does not go."""
        if ops is not None and not is_count(ops):
            raise InvalidCount(ops)
        self._power = ops

    def ops(self):
        """How many calls of write, sync, drop and fall were done."""
        return self._ops

    def copy(self):
        """Give another disk in the same state."""
        other = Disk()
        other._files = dict(self._files)
        other._ops = self._ops
        other._power = self._power
        return other

    def _found(self, name):
        """Give the text of a file and how many of its signs are synced."""
        if not _is_file_name(name):
            raise InvalidName(name)
        if name not in self._files:
            raise NoFile(name)
        return self._files[name]

    def _use_power(self):
        """Count a call of write, sync or drop, if the power is there for it."""
        if self._power == 0:
            raise PowerCut()
        if self._power is not None:
            self._power = self._power - 1
        self._ops = self._ops + 1


def _is_file_name(value):
    """Judge whether this is the name of a file."""
    if not isinstance(value, str) or not 1 <= len(value) <= MOST_OF_NAME:
        return False
    return all([sign in SIGNS_OF_NAME for sign in value])
