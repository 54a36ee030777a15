"""The examiner: whether what lies on several disks can be that of brokers who copy rows, and what most of them have."""

from inorderonce.disks import Disk
from inorderonce.errors import InvalidDisk, InvalidTerm
from inorderonce.kinds import is_list_of, is_number
from inorderonce.lines import line
from inorderonce.logs import Log

MOST_DISKS = 5


def findings(disks):
    """List all that cannot be of the logs of such brokers, ascending."""
    logs = _logs(disks)
    found = []
    for one, log in enumerate(logs):
        found.extend([("own", one, index) for index in _own(log)])
        for other in range(one + 1, len(logs)):
            index = _unlike_row(log, logs[other])
            if index is not None:
                found.append(("rows", one, other, index))
            if _have_unlike_bases(log, logs[other]):
                found.append(("bases", one, other, log.base))
    return sorted(found)


def on_most(disks):
    """Give the greatest index up to which more than half of the logs have the same rows, or a base."""
    logs = _logs(disks)
    ends = {log.base: True for log in logs}
    for log in logs:
        for index in _indices(log):
            ends[index] = True
    for index in sorted(ends, reverse=True):
        if _is_on_most(logs, index):
            return index
    return 0


def shared(disks):
    """List the rows that all logs have behind the greatest of their bases, as long as all have the same one."""
    logs = _logs(disks)
    base = max([log.base for log in logs])
    behind = [_rows_behind(log, base) for log in logs]
    rows = []
    for place, row in enumerate(behind[0]):
        if not all([held[place:place + 1] == [row] for held in behind]):
            break
        rows.append(row)
    return rows


def last_term(disks):
    """Give the greatest term of the logs."""
    return max([log.term for log in _logs(disks)])


def votes(disks, term):
    """List for each log whom it voted for in a term, or None."""
    logs = _logs(disks)
    if not is_number(term):
        raise InvalidTerm(term)
    return [log.voted if log.term == term else None for log in logs]


def able(disks):
    """List the numbers of the logs whose last row is not below that of more than half of them."""
    ends = []
    for log in _logs(disks):
        index, term = log.last()
        ends.append((term, index))
    return [number for number, end in enumerate(ends) if _is_most([end >= other for other in ends])]


def _logs(disks):
    """List the logs that lie on these disks."""
    if not is_list_of(disks, _is_disk) or not 1 <= len(disks) <= MOST_DISKS:
        raise InvalidDisk(disks)
    # Opening a log makes no call that changes the disk.
    return [Log(disk) for disk in disks]


def _is_disk(value):
    return isinstance(value, Disk)


def _is_most(answers):
    """Judge whether more than half of some answers are yes."""
    return 2 * sum(answers) > len(answers)


def _indices(log):
    """List the indices of the rows of a log."""
    last, _ = log.last()
    return list(range(log.base + 1, last + 1))


def _rows_behind(log, base):
    """List the rows behind an index that is not below the base."""
    return log.rows()[base - log.base:]


def _own(log):
    """List the indices of the rows whose term is below that ahead of it, or above that of the log."""
    found = []
    for index in _indices(log):
        if not log.term_at(index - 1) <= log.term_at(index) <= log.term:
            found.append(index)
    return found


def _unlike_row(one, other):
    """Give the least index of rows with the same term that are unlike, or stand behind what is unlike; else None."""
    unlike = False
    for index in [one.base] + _indices(one):
        term, held = one.term_at(index), other.term_at(index)
        if held is None:
            continue
        if term != held:
            unlike = True
        elif index > max(one.base, other.base) and (unlike or one.row(index) != other.row(index)):
            return index
    return None


def _have_unlike_bases(one, other):
    """Judge whether two logs have bases of the same index that are unlike."""
    if one.base != other.base or one.base == 0:
        return False
    return one.base_term != other.base_term or line(one.picture) != line(other.picture)


def _is_on_most(logs, index):
    """Judge whether most logs have a base that is not below an index, or a row there with one and the same term."""
    based = [log.base >= index for log in logs]
    terms = [None if log.base >= index else log.term_at(index) for log in logs]
    for term in terms:
        if _is_most([has or (term is not None and held == term) for has, held in zip(based, terms)]):
            return True
    return False
