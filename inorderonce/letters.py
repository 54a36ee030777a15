"""Items, tokens, commands, and the letters between brokers and clients."""

from inorderonce.errors import InvalidLetter, InvalidLine
from inorderonce.kinds import fits, has_word, is_between
from inorderonce.lines import is_name, is_nested, is_text, read_line

# Sums of such integers have at most 15 figures, so that they are values, too.
GREATEST = 999999999999
MOST_OF_BODY = 40
MOST_OF_ITEMS = 4
HIGHEST_PRIORITY = 3
LONGEST_WAIT = 50
MOST_TRIES = 4
LAST_BROKER = 4
MOST_OF_ROWS = 5
MOST_OF_PICTURE = 40000
DEEPEST_PICTURE = 5


def is_item(value):
    """Judge whether this is an item."""
    return fits(value, ITEM)


def is_token(value):
    """Judge whether this is a token."""
    return fits(value, TOKEN)


def is_command(value):
    """Judge whether this is a command."""
    if not has_word(value) or value[0] not in COMMANDS:
        return False
    if not fits(value[1:], COMMANDS[value[0]]):
        return False
    # The topic for the dead of a group is another one than that which it reads.
    return value[0] != "group" or value[2] != value[3]


def is_sending(value):
    """Judge whether this is what a producer sends at once: a tuple of items, at least one."""
    return _is_made(value) and len(value) > 0


def is_letter(value):
    """Judge whether this is a letter between brokers, or between a client and a broker."""
    if not has_word(value) or value[0] not in LETTERS:
        return False
    _, form = LETTERS[value[0]]
    return fits(value[1:], form)


def side(letter):
    """Tell between whom a letter goes: "brokers", "asks" of clients, or "answers" to them."""
    if not is_letter(letter):
        raise InvalidLetter(letter)
    between, _ = LETTERS[letter[0]]
    return between


def client_of(letter):
    """Give the name of the client that sent a letter or gets it."""
    if side(letter) == "brokers":
        raise InvalidLetter(letter)
    return letter[1]


# The tables below may hold only functions of this file, so is_name needs a name of this file.
def _is_name(value):
    return is_name(value)


def _is_name_or_none(value):
    return value is None or is_name(value)


def _is_bool(value):
    return isinstance(value, bool)


def _is_count(value):
    return is_between(value, 0, GREATEST)


def _is_number(value):
    return is_between(value, 1, GREATEST)


def _is_body(value):
    return is_text(value, MOST_OF_BODY)


def _is_priority(value):
    return is_between(value, 0, HIGHEST_PRIORITY)


def _is_wait(value):
    return is_between(value, 0, LONGEST_WAIT)


def _is_tries(value):
    return is_between(value, 0, MOST_TRIES)


def _is_broker(value):
    return is_between(value, 0, LAST_BROKER)


def _is_leader(value):
    return is_between(value, -1, LAST_BROKER)


def _is_made(value):
    """Judge whether this is what a member makes of one message: a tuple of items, perhaps of none."""
    if not isinstance(value, tuple) or len(value) > MOST_OF_ITEMS:
        return False
    return all([is_item(part) for part in value])


def _is_making(value):
    """Judge whether this is a command that a client may ask for by itself."""
    return is_command(value) and value[0] in ("topic", "group")


def _is_row(value):
    return fits(value, ROW)


def _is_rows(value):
    if not isinstance(value, tuple) or len(value) > MOST_OF_ROWS:
        return False
    return all([_is_row(part) for part in value])


def _is_picture(value):
    """Judge whether this is the line of a value that may be the picture in a letter."""
    if not is_text(value, MOST_OF_PICTURE):
        return False
    try:
        return is_nested(read_line(value), DEEPEST_PICTURE)
    except InvalidLine:
        return False


ITEM = (_is_name, _is_name, _is_body, _is_priority, _is_wait, _is_wait)
TOKEN = (_is_number, _is_number)
ROW = (_is_number, is_command)
# For each word what stands behind it.
COMMANDS = {
    "topic": (_is_name, _is_bool),
    "group": (_is_name, _is_name, _is_name_or_none),
    "send": (_is_name, _is_number, is_sending),
    "done": (_is_name, _is_number, is_token, _is_made),
    "failed": (_is_name, _is_number, _is_tries),
    "now": (_is_count,),
}
# For each word the side of the letter, and what stands behind the word.
LETTERS = {
    "ask": ("brokers", (_is_number, _is_broker, _is_count, _is_count)),
    "vote": ("brokers", (_is_number, _is_broker, _is_bool)),
    "rows": ("brokers", (_is_number, _is_broker, _is_count, _is_count, _is_rows, _is_count)),
    "got": ("brokers", (_is_number, _is_broker, _is_bool, _is_count)),
    "whole": ("brokers", (_is_number, _is_broker, _is_count, _is_count, _is_picture)),
    "send": ("asks", (_is_name, _is_number, is_sending)),
    "want": ("asks", (_is_name, _is_number, _is_name)),
    "done": ("asks", (_is_name, _is_number, _is_name, _is_number, is_token, _is_made)),
    "nay": ("asks", (_is_name, _is_number, _is_name, _is_number, is_token)),
    "make": ("asks", (_is_name, _is_number, _is_making)),
    "ok": ("answers", (_is_name, _is_number)),
    "give": ("answers", (_is_name, _is_number, _is_name, _is_number, is_token, _is_name, _is_name, _is_body)),
    "none": ("answers", (_is_name, _is_number)),
    "yes": ("answers", (_is_name, _is_number, _is_name, _is_number, is_token)),
    "stale": ("answers", (_is_name, _is_number, _is_name, _is_number, is_token)),
    "made": ("answers", (_is_name, _is_number)),
    "elsewhere": ("answers", (_is_name, _is_number, _is_leader)),
}
