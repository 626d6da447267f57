"""The lines of the desk."""

from saidacross.errors import NoLine
from saidacross.forms import ALPHABET, is_word

# For each first word of a line the kinds of its parts behind it. A text goes on to the end.
LINES = {
    "keep": ("name", "text"),
    "make": ("name", "word", "text"),
    "drop": ("name",),
    "names": (),
    "kind": ("name",),
    "say": ("name", "word"),
    "swap": ("name",),
    "talk": ("name", "word", "word"),
    "step": (),
    "bits": (),
    "answer": (),
    "undo": (),
}


def parts_of(line):
    """The list of the parts of a line of the desk, its first word ahead."""
    if not isinstance(line, str) or "\n" in line:
        raise NoLine()
    head = line.split(" ", 1)[0]
    if head not in LINES:
        raise NoLine()
    kinds = LINES[head]
    parts = line.split(" ", len(kinds)) if "text" in kinds else line.split(" ")
    if len(parts) != 1 + len(kinds) or "" in parts:
        raise NoLine()
    if "name" in kinds and not _is_name(parts[1]):
        raise NoLine()
    return parts


def _is_name(text):
    """Whether it is a string of 1 to 8 letters from `a` to `z`."""
    return is_word(ALPHABET, text) and 1 <= len(text) <= 8
