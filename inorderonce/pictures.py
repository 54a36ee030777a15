"""States as values: a picture is kept in the place of the rows that made it."""

from inorderonce.errors import InvalidCount, InvalidLine, InvalidPicture, InvalidState
from inorderonce.kinds import fits, is_between, is_count, is_number
from inorderonce.letters import GREATEST, MOST_TRIES, is_item
from inorderonce.lines import is_name, line, read_line
from inorderonce.meaning import TOPIC, State, state_of_parts


def picture(state):
    """Give the picture of a state."""
    if not isinstance(state, State):
        raise InvalidState(state)
    groups = [_picture_of_group(state, row) for row in state.groups()]
    numbers = [number for topic, _ in state.topics() for number in state.kept(topic)]
    messages = [state.message(number) for number in sorted(numbers)]
    return (
        state.now, state.next, tuple(state.topics()), tuple(groups), tuple(messages), tuple(state.producers()),
    )


def state_of(value):
    """Give the state that has this picture."""
    if not _is_picture(value):
        raise InvalidPicture(value)
    return _make_state(value)


def text_of(state):
    """Give the line of the picture of a state."""
    return line(picture(state))


def read_state(text):
    """Give the state whose text this is."""
    value = read_line(text)
    if not _is_picture(value):
        raise InvalidLine(text)
    return _make_state(value)


def room(topics, groups, messages, producers):
    """How many signs the text of a state of at most so many parts may have."""
    for many in (topics, groups, messages, producers):
        if not is_count(many):
            raise InvalidCount(many)
    return 64 + 16 * topics + (72 + 22 * messages) * groups + 200 * messages + 30 * producers


def _picture_of_group(state, row):
    """Give what a picture tells of a group."""
    group, topic, dead = row
    done, buried = state.counts(group)
    waiting = [(number, state.tries(group, number)) for number in state.waiting(group)]
    return group, topic, dead, done, buried, tuple(waiting)


def _make_state(value):
    """Give the state that has this picture, which was judged."""
    now, following, topics, groups, messages, producers = value
    return state_of_parts(now, following, topics, groups, messages, producers)


def _is_picture(value):
    """Judge whether this is the picture of a state."""
    if not fits(value, (_is_time, is_number, _are_topics, _are_groups, _are_messages, _are_producers)):
        return False
    _, following, topics, groups, messages, _ = value
    names = [name for name, _ in topics]
    topic_of = {message[0]: message[TOPIC] for message in messages}
    for number, topic in topic_of.items():
        if number >= following or topic not in names:
            return False
    for _, topic, dead, _, _, waiting in groups:
        if topic not in names or dead == topic or (dead is not None and dead not in names):
            return False
        if any([topic_of.get(number) != topic for number, _ in waiting]):
            return False
    return True


def _is_table(value, judge):
    """Judge whether this is a tuple of tuples, each as judge asks, that ascend by their first values, all unlike."""
    if not isinstance(value, tuple) or not all([judge(row) for row in value]):
        return False
    return all([one[0] < other[0] for one, other in zip(value, value[1:])])


def _are_topics(value):
    return _is_table(value, _is_topic)


def _are_groups(value):
    return _is_table(value, _is_group)


def _are_messages(value):
    return _is_table(value, _is_message)


def _are_producers(value):
    return _is_table(value, _is_producer)


def _are_waiting(value):
    return _is_table(value, _is_waiting)


def _is_topic(value):
    return fits(value, (is_name, _is_bool))


def _is_group(value):
    return fits(value, (is_name, is_name, _is_name_or_none, is_count, is_count, _are_waiting))


def _is_waiting(value):
    return fits(value, (is_number, _is_tries))


def _is_message(value):
    if not isinstance(value, tuple) or len(value) != 8:
        return False
    number, topic, key, body, priority, since, until, maker = value
    # These four are as in an item.
    if not is_number(number) or not is_item((topic, key, body, priority, 0, 0)):
        return False
    return is_count(since) and is_count(until) and _is_maker(maker)


def _is_producer(value):
    return fits(value, (is_name, is_number))


def _is_maker(value):
    return fits(value, (is_name, is_number)) or fits(value, (is_name, is_number, _is_dead))


def _is_time(value):
    return is_between(value, 0, GREATEST)


def _is_bool(value):
    return isinstance(value, bool)


def _is_name_or_none(value):
    return value is None or is_name(value)


def _is_tries(value):
    return is_between(value, 0, MOST_TRIES)


def _is_dead(value):
    return value == "dead"
