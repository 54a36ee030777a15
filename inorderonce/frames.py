"""Frames: they tell where a text ends, so that a cut never shows half of one."""

from inorderonce.errors import InvalidCount, InvalidText
from inorderonce.kinds import is_count
from inorderonce.lines import is_signs, is_text

MOST_SIGNS = 80000
FIGURES = 5


def framed(text):
    """Give the frame of a text."""
    if not is_text(text, MOST_SIGNS):
        raise InvalidText(text)
    return _frame(text)


def all_framed(texts):
    """Give the frames of a list of texts, one behind the other."""
    _judge(texts)
    return "".join([_frame(text) for text in texts])


def frames_in(text):
    """Give the list of texts whose frames begin this text, one behind the other, and how many signs these have."""
    if not is_signs(text):
        raise InvalidText(text)
    texts = []
    start = 0
    end = _end_of_frame(text, start)
    while end > start:
        texts.append(text[start + FIGURES + 1:end - 1])
        start = end
        end = _end_of_frame(text, start)
    return texts, start


def is_whole(value):
    """Judge whether this is a text of nothing but frames, one behind the other, or of nothing at all."""
    if not is_signs(value):
        return False
    _, signs = frames_in(value)
    return signs == len(value)


def cut_at(texts, signs):
    """How many of a list of texts have their frames whole among the first so many signs."""
    _judge(texts)
    if not is_count(signs):
        raise InvalidCount(signs)
    end = 0
    many = 0
    for text in texts:
        end = end + len(_frame(text))
        if end <= signs:
            many = many + 1
    return many


def _judge(texts):
    """Raise unless this is a list of texts that have frames."""
    if not isinstance(texts, (list, tuple)):
        raise InvalidText(texts)
    for text in texts:
        if not is_text(text, MOST_SIGNS):
            raise InvalidText(text)


def _frame(text):
    """Write the frame of a text that may have one."""
    return str(len(text)).zfill(FIGURES) + ":" + text + ";"


def _end_of_frame(text, start):
    """The place behind the frame that begins here; where none begins, this very place."""
    figures = text[start:start + FIGURES]
    # A text that ends amid the figures has no colon behind them.
    if not figures.isdigit() or text[start + FIGURES:start + FIGURES + 1] != ":":
        return start
    end = start + FIGURES + 1 + int(figures) + 1
    if int(figures) > MOST_SIGNS or text[end - 1:end] != ";":
        return start
    return end
