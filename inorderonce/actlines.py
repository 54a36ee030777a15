"""Acts as lines of words."""

from inorderonce.errors import InvalidAct, InvalidLine, InvalidText
from inorderonce.kinds import is_between, is_integer
from inorderonce.lines import GREATEST_INTEGER, is_signs, line, read_line
from inorderonce.worlds import is_act

WORDS_OF_ITEM = 6
MARK_OF_NONE = "-"


def act_line(act):
    """Give the line of an act."""
    if not _has_line(act):
        raise InvalidAct(act)
    return _write(act)


def read_act(text):
    """Give the act with this line."""
    if not is_signs(text):
        raise InvalidText(text)
    act = _read(_words(text))
    # Reading is lenient: so a text is taken only if it is just what would be written.
    if not _has_line(act) or _write(act) != text:
        raise InvalidText(text)
    return act


def _has_line(value):
    """Judge whether this is an act that has a line."""
    if not is_act(value):
        return False
    numbers = [part for part in value[1:] if is_integer(part)]
    if value[0] in ("fall", "cut"):
        numbers.extend(value[-1])
    return all([is_between(number, 0, GREATEST_INTEGER) for number in numbers])


def _write(act):
    """Write an act as its line."""
    word, who = act[:2]
    words = [word, str(who)]
    if word == "cut":
        words.append(MARK_OF_NONE if act[2] is None else str(act[2]))
    if word in ("fall", "cut"):
        words.extend([str(count) for count in act[-1]])
    elif word == "send":
        words.append(", ".join([_write_item(item) for item in act[2]]))
    elif word == "make":
        words.append(str(act[2]))
        words.extend(_words_of_command(act[3]))
    return " ".join(words)


def _write_item(item):
    topic, key, body, priority, delay, span = item
    return " ".join([topic, key, line(body), str(priority), str(delay), str(span)])


def _words_of_command(command):
    """List the words of a "topic" or "group" command."""
    if command[0] == "topic":
        _, topic, last = command
        return ["topic", topic, "last"] if last else ["topic", topic]
    return [part for part in command if part is not None]


def _words(text):
    """List the words of a text: what stands between its blanks, those within quotes not counted."""
    words = []
    start = 0
    within = False
    at = 0
    while at < len(text):
        if text[at] == "\\" and within:
            at = at + 1
        elif text[at] == '"':
            within = not within
        elif text[at] == " " and not within:
            words.append(text[start:at])
            start = at + 1
        at = at + 1
    return words + [text[start:]]


def _read(words):
    """Give the act with these words, or None; it is judged by the caller."""
    word = words[0]
    parts = words[1:]
    if word in ("tick", "rise", "carry", "lose", "double") and len(parts) == 1:
        return word, _read_part(parts[0])
    if word == "fall" and len(parts) >= 1:
        return word, _read_part(parts[0]), _read_parts(parts[1:])
    if word == "cut" and len(parts) >= 2:
        ops = None if parts[1] == MARK_OF_NONE else _read_part(parts[1])
        return word, _read_part(parts[0]), ops, _read_parts(parts[2:])
    if word == "send" and len(parts) >= 1:
        return word, parts[0], _read_items(parts[1:])
    if word == "make" and len(parts) >= 4:
        return word, parts[0], _read_part(parts[1]), _read_command(parts[2:])
    return None


def _read_part(word):
    """Give the integer that a word is the figures of, or else the word."""
    # Figures beyond those of any integer of a line stay a word, which is no integer.
    if word.isdigit() and len(word) <= len(str(GREATEST_INTEGER)):
        return int(word)
    return word


def _read_parts(words):
    return tuple([_read_part(word) for word in words])


def _read_items(words):
    """Give the tuple of the items with these words."""
    items = []
    for start in range(0, len(words), WORDS_OF_ITEM):
        items.append(_read_item(words[start:start + WORDS_OF_ITEM]))
    return tuple(items)


def _read_item(words):
    """Give the item with these words, or None."""
    if len(words) != WORDS_OF_ITEM:
        return None
    topic, key, body, priority, delay, span = words
    try:
        text = read_line(body)
    except InvalidLine:
        return None
    return topic, key, text, _read_part(priority), _read_part(delay), _read_part(span.removesuffix(","))


def _read_command(words):
    """Give the "topic" or "group" command with these words, or None."""
    if words[0] == "topic":
        return "topic", words[1], words[2:] == ["last"]
    if words[0] == "group" and len(words) in (3, 4):
        return "group", words[1], words[2], words[3] if len(words) == 4 else None
    return None
