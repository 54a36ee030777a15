"""A broker's log: rows and promises, each written and synced before anything is told of it."""

from inorderonce.disks import Disk
from inorderonce.errors import (
    InvalidCommand, InvalidCount, InvalidDisk, InvalidLine, InvalidNumber, InvalidTerm, InvalidValue, NoRow,
)
from inorderonce.frames import all_framed, frames_in
from inorderonce.kinds import fits, has_word, is_between, is_count, is_integer, is_number
from inorderonce.letters import DEEPEST_PICTURE, LAST_BROKER, MOST_OF_PICTURE, is_command
from inorderonce.lines import has_line, line, read_line

BEGIN_OF_NAME = "log-"
FIGURES_OF_NAME = 4


def files_on(disk, begin):
    """List the names of the files on a disk that begin so, with four figures behind it, ascending."""
    return [name for name in disk.names() if _is_numbered(name, begin)]


def new_file(disk, begin):
    """Give the name of the file behind all those that begin so."""
    names = files_on(disk, begin)
    number = int(names[-1].removeprefix(begin)) + 1 if names else 1
    return begin + str(number).zfill(FIGURES_OF_NAME)


def values_on(disk, begin):
    """List the values whose lines stand in the files that begin so, in order; what is no such line is passed over."""
    values = []
    for name in files_on(disk, begin):
        texts, _ = frames_in(disk.read(name))
        for text in texts:
            try:
                values.append(read_line(text))
            except InvalidLine:
                continue
    return values


def _is_numbered(name, begin):
    """Judge whether a name begins so, and has just four figures behind it."""
    figures = name.removeprefix(begin)
    return name == begin + figures and len(figures) == FIGURES_OF_NAME and figures.isdigit()


def log_meaning(disk):
    """Give the log that lies on a disk: (term, vote, base index, base term, picture, rows)."""
    log = Log(disk)
    return log.term, log.voted, log.base, log.base_term, log.picture, tuple(log.rows())


class Log:
    """The log that lies on a disk, which it writes to from now on."""

    def __init__(self, disk):
        if not isinstance(disk, Disk):
            raise InvalidDisk(disk)
        self.term = 0
        self.voted = None
        self.base = 0
        self.base_term = 0
        self.picture = None
        self._rows = []
        self._disk = disk
        # The file that is written to; None until something is written.
        self._file = None
        for entry in values_on(disk, BEGIN_OF_NAME):
            if _is_entry(entry):
                self._follow(entry)

    def rows(self):
        """List the rows, tuples (term, command)."""
        return list(self._rows)

    def last(self):
        """Give the tuple (index, term) of the last row, or of the base where there are no rows."""
        if not self._rows:
            return self.base, self.base_term
        term, _ = self._rows[-1]
        return self.base + len(self._rows), term

    def term_at(self, index):
        """Give the term of a row or of the base, or None."""
        if not is_integer(index):
            return None
        if index == self.base:
            return self.base_term
        if not self._has(index):
            return None
        term, _ = self.row(index)
        return term

    def row(self, index):
        """Give the row with this index."""
        if not self._has(index):
            raise NoRow(index)
        return self._rows[index - self.base - 1]

    def rows_from(self, index, most):
        """List the rows from this index on, the first most of them if there are more."""
        if not is_between(index, self.base + 1, self.base + len(self._rows) + 1):
            raise NoRow(index)
        if not is_count(most):
            raise InvalidCount(most)
        start = index - self.base - 1
        return self._rows[start:start + most]

    def vote(self, term, who):
        """Write a term and the vote in it."""
        if not is_integer(term) or term < self.term:
            raise InvalidTerm(term)
        if term == self.term and (term == 0 or self.voted is not None):
            raise InvalidTerm(term)
        if not is_between(who, 0, LAST_BROKER) and (who is not None or term == self.term):
            raise InvalidNumber(who)
        self._write([("vote", term, who)])

    def put(self, term, command):
        """Write a row behind the last one, and return its index."""
        index, elder = self.last()
        if not is_number(term) or not elder <= term <= self.term:
            raise InvalidTerm(term)
        if not is_command(command):
            raise InvalidCommand(command)
        self._write([("row", index + 1, term, command)])
        return index + 1

    def cut(self, index):
        """Write that a row goes, with all rows behind it."""
        if not self._has(index):
            raise NoRow(index)
        self._write([("cut", index)])

    def keep(self, index, picture):
        """Make a row and the picture of all up to it the base; the rows behind it stay."""
        if not self._has(index):
            raise NoRow(index)
        if not _is_picture(picture):
            raise InvalidValue(picture)
        self._begin_anew(index, self.term_at(index), picture)

    def swap(self, index, term, picture):
        """Make what was handed over the base; the rows behind it stay if they are of the same log."""
        if not is_integer(index) or index <= self.base:
            raise InvalidNumber(index)
        if not is_number(term) or not self.base_term <= term <= self.term:
            raise InvalidTerm(term)
        if not _is_picture(picture):
            raise InvalidValue(picture)
        self._begin_anew(index, term, picture)

    def _has(self, index):
        """Judge whether a row has this index."""
        return is_between(index, self.base + 1, self.base + len(self._rows))

    def _behind(self, index, term):
        """List the rows that stay behind a base with this index and this term."""
        if self.term_at(index) == term:
            return self._rows[index - self.base:]
        return []

    def _begin_anew(self, index, term, picture):
        """Write a base and all that stays with it into a new file, and drop the others."""
        entries = [("whole", index, term, picture), ("vote", self.term, self.voted)]
        for place, (elder, command) in enumerate(self._behind(index, term), index + 1):
            entries.append(("row", place, elder, command))
        self._file = None
        self._write(entries)
        for name in files_on(self._disk, BEGIN_OF_NAME):
            if name != self._file:
                self._disk.drop(name)

    def _write(self, entries):
        """Write entries and sync them, then do what they tell."""
        if self._file is None:
            self._file = new_file(self._disk, BEGIN_OF_NAME)
        self._disk.write(self._file, all_framed([line(entry) for entry in entries]))
        self._disk.sync(self._file)
        for entry in entries:
            self._follow(entry)

    def _follow(self, entry):
        """Do what an entry tells."""
        word = entry[0]
        if word == "vote":
            self._follow_vote(entry)
        elif word == "row":
            self._follow_row(entry)
        elif word == "cut":
            self._follow_cut(entry)
        else:
            self._follow_whole(entry)

    def _follow_vote(self, entry):
        _, term, who = entry
        if term >= self.term:
            self.term = term
            self.voted = who

    def _follow_row(self, entry):
        _, index, term, command = entry
        if index == self.base + len(self._rows) + 1:
            self._rows.append((term, command))

    def _follow_cut(self, entry):
        _, index = entry
        if self._has(index):
            del self._rows[index - self.base - 1:]

    def _follow_whole(self, entry):
        _, index, term, picture = entry
        if index > self.base:
            self._rows = self._behind(index, term)
            self.base = index
            self.base_term = term
            self.picture = picture


def _is_entry(value):
    """Judge whether this is an entry."""
    if not has_word(value):
        return False
    word = value[0]
    parts = value[1:]
    if word == "vote":
        return fits(parts, (is_number, _is_voted))
    if word == "row":
        return fits(parts, (is_number, is_number, is_command))
    if word == "cut":
        return fits(parts, (is_number,))
    return word == "whole" and fits(parts, (is_number, is_number, _is_picture))


def _is_voted(value):
    return value is None or is_between(value, 0, LAST_BROKER)


def _is_picture(value):
    """Judge whether this may be the picture of a base."""
    return has_line(value, DEEPEST_PICTURE, MOST_OF_PICTURE)
