"""Sayings as texts."""

from saidacross.errors import NoSaying, NoText
from saidacross.forms import ALPHABET
from saidacross.numerals import number_of
from saidacross.sayingforms import FORMS, is_saying


def saying_text(saying):
    """The text of the saying."""
    if not is_saying(ALPHABET, saying, 6):
        raise NoSaying()
    return _text_of(saying)


def read_saying(text):
    """The saying whose text it is."""
    if not isinstance(text, str):
        raise NoText()
    saying, end = _read(text, 0, 6)
    # What was read may still be no saying, or have another text than this one.
    if end != len(text) or not is_saying(ALPHABET, saying, 6) or _text_of(saying) != text:
        raise NoText()
    return saying


def _text_of(saying):
    """The text of what is known to be a saying."""
    parts = [_part_text(kind, part) for kind, part in zip(FORMS[saying[0]], saying[1:])]
    return "(" + " ".join([saying[0]] + parts) + ")"


def _part_text(kind, part):
    """The text of a part of a saying that is of this kind."""
    if kind == "saying":
        return _text_of(part)
    return "-" if part == "" else str(part)


def _read(text, begin, deepest):
    """What stands between brackets at this place of the text, and the place behind it."""
    if deepest == 0 or text[begin:begin + 1] != "(":
        raise NoText()
    head, at = _read_word(text, begin + 1)
    if head not in FORMS:
        raise NoText()
    parts = [head]
    for kind in FORMS[head]:
        if text[at:at + 1] != " ":
            raise NoText()
        part, at = _read_part(text, at + 1, kind, deepest)
        parts.append(part)
    if text[at:at + 1] != ")":
        raise NoText()
    return tuple(parts), at + 1


def _read_part(text, begin, kind, deepest):
    """A part of a saying that should be of this kind, and the place behind it."""
    if kind == "saying":
        return _read(text, begin, deepest - 1)
    word, end = _read_word(text, begin)
    if kind in ("modulus", "rest", "bound"):
        return number_of(word, 6), end
    return "" if word == "-" else word, end


def _read_word(text, begin):
    """What stands at this place up to a space, a bracket or the end, and the place behind it."""
    end = begin
    while end < len(text) and text[end] not in " ()":
        end += 1
    return text[begin:end], end
