"""What is a saying."""

from saidacross.forms import is_between, is_choice, is_letter, is_word

# For each first word of a saying the kinds of the parts behind it.
FORMS = {
    "first": ("letter",),
    "last": ("letter",),
    "count": ("letter", "modulus", "rest"),
    "least": ("letter", "bound"),
    "in": ("word",),
    "row": ("word",),
    "only": ("lot",),
    "not": ("saying",),
    "and": ("saying", "saying"),
    "or": ("saying", "saying"),
    "cut": ("letter", "saying", "saying"),
    "cutlast": ("letter", "saying", "saying"),
}


def is_saying(letters, thing, deepest):
    """Whether it is a saying of these letters that is at most `deepest` deep."""
    # The depth is checked on the way down: what is passed may share its parts, and
    # then it has far more ways down than parts.
    if deepest == 0 or not isinstance(thing, tuple) or len(thing) == 0:
        return False
    if not isinstance(thing[0], str) or thing[0] not in FORMS:
        return False
    kinds = FORMS[thing[0]]
    if len(thing) != 1 + len(kinds):
        return False
    for kind, part in zip(kinds, thing[1:]):
        if not _is_part(letters, kind, part, deepest):
            return False
    return thing[0] != "count" or thing[3] < thing[2]


def _is_part(letters, kind, part, deepest):
    """Whether the part of a saying that is at most `deepest` deep is of this kind."""
    if kind == "saying":
        return is_saying(letters, part, deepest - 1)
    if kind == "letter":
        return is_letter(letters, part)
    if kind == "word":
        return is_word(letters, part) and 1 <= len(part) <= 4
    if kind == "lot":
        return is_choice(letters, part)
    if kind == "modulus":
        return is_between(part, 1, 6)
    if kind == "rest":
        return is_between(part, 0, 5)
    return is_between(part, 1, 5)
