"""Names, plain texts, and values with their lines."""

from inorderonce.errors import InvalidLine, InvalidValue, TooLong
from inorderonce.kinds import is_between

GREATEST_INTEGER = 999999999999999
MOST_OF_NAME = 8
MOST_OF_PLAIN = 60
MOST_OF_TEXT = 40000
MOST_OF_LINE = 80000
MOST_IN_TUPLE = 400
MOST_IN_VALUE = 20100
DEEPEST = 6
MARKS = {"~": None, "+": True, "!": False}


def is_signs(value):
    """Judge whether this is a text, of whatever length, with codes from 32 to 126."""
    # Of the codes below 128 those from 32 to 126, and no others, are printable.
    return isinstance(value, str) and value.isascii() and value.isprintable()


def is_text(value, most):
    """Judge whether this is a text of at most so many signs, with codes from 32 to 126."""
    return isinstance(value, str) and len(value) <= most and is_signs(value)


def is_name(value):
    """Judge whether this is a name."""
    return is_text(value, MOST_OF_NAME) and value.isalpha() and value.islower()


def is_plain(value):
    """Judge whether this is a plain text."""
    return is_text(value, MOST_OF_PLAIN)


def is_value(value):
    """Judge whether this is a value."""
    return is_nested(value, DEEPEST)


def is_nested(value, deep):
    """Judge whether this is a value that is nested at most so deep."""
    return _count_within(value, deep) <= MOST_IN_VALUE


def has_line(value, deep, most):
    """Judge whether this is a value that is nested at most so deep, and whose line has at most so many signs."""
    return is_nested(value, deep) and _count_signs(value) <= most


def _count_within(value, deep):
    """How many values stand in this one, itself counted; more than may, if it is no value so deep."""
    if not isinstance(value, tuple):
        return 1 if _is_single(value) else MOST_IN_VALUE + 1
    if deep == 0 or len(value) > MOST_IN_TUPLE:
        return MOST_IN_VALUE + 1
    total = 1
    for part in value:
        total = total + _count_within(part, deep - 1)
        # A tuple may hold one and the same part many times over: all of it might never be counted.
        if total > MOST_IN_VALUE:
            break
    return total


def _is_single(value):
    """Judge whether this is a value other than a tuple."""
    if value is None or isinstance(value, bool):
        return True
    return is_between(value, -GREATEST_INTEGER, GREATEST_INTEGER) or is_text(value, MOST_OF_TEXT)


def line(value):
    """Give the line of a value."""
    if not is_value(value):
        raise InvalidValue(value)
    # Counted ahead of writing: the line of a value may have hundreds of millions of signs.
    signs = _count_signs(value)
    if signs > MOST_OF_LINE:
        raise TooLong(signs)
    return _write(value)


def _count_signs(value):
    """How many signs the line of a value has."""
    if isinstance(value, str):
        return 2 + len(value) + value.count('"') + value.count("\\")
    if isinstance(value, tuple):
        blanks = max(0, len(value) - 1)
        return 2 + blanks + sum([_count_signs(part) for part in value])
    return len(_write(value))


def _write(value):
    """Write a value as its line."""
    if isinstance(value, tuple):
        return "(" + " ".join([_write(part) for part in value]) + ")"
    if isinstance(value, str):
        return '"' + value.replace("\\", "\\\\").replace('"', '\\"') + '"'
    if value is None:
        return "~"
    if value is True:
        return "+"
    if value is False:
        return "!"
    return str(value)


def read_line(text):
    """Give the value whose line this is."""
    if not is_text(text, MOST_OF_LINE):
        raise InvalidLine(text)
    values = _read_values(text)
    # Reading is lenient: it passes over blanks, zeros and escapes that the line of a value does not have.
    # So a text is taken only if it is just what would be written.
    if len(values) != 1 or not is_value(values[0]) or _write(values[0]) != text:
        raise InvalidLine(text)
    return values[0]


def _read_values(text):
    """List the values that stand in a text; none if it cannot be read."""
    values = []
    around = []
    at = 0
    while at < len(text):
        end = _end_of_word(text, at)
        word = text[at:end]
        at = end
        if word == "(":
            around.append(values)
            values = []
        elif word == ")" and around:
            whole = tuple(values)
            values = around.pop()
            values.append(whole)
        elif word != " ":
            found = _read_word(word)
            if not found:
                return []
            values.extend(found)
        if len(around) > DEEPEST:
            return []
    return [] if around else values


def _end_of_word(text, at):
    """The place behind the word that begins here: a bracket, a blank, a text, or a run of other signs."""
    if text[at] in "() ":
        return at + 1
    if text[at] == '"':
        return _end_of_text(text, at)
    while at < len(text) and text[at] not in '() "':
        at = at + 1
    return at


def _end_of_text(text, at):
    """The place behind the quote that closes the one that stands here."""
    at = at + 1
    while at < len(text) and text[at] != '"':
        at = at + 2 if text[at] == "\\" else at + 1
    return at + 1


def _read_word(word):
    """List the one value that a word stands for; none if it stands for no value."""
    if word in MARKS:
        return [MARKS[word]]
    if word[0] == '"':
        return [word[1:-1].replace('\\"', '"').replace("\\\\", "\\")]
    figures = word.removeprefix("-")
    if figures.isdigit() and len(figures) <= len(str(GREATEST_INTEGER)):
        return [int(word)]
    return []
