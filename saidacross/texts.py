"""Machines and talks as texts."""

from saidacross.errors import NoMessages, NoText
from saidacross.forms import is_ascending, is_letter, is_letters, is_word
from saidacross.machines import machine_of_parts
from saidacross.numerals import number_of


def machine_text(machine):
    """The text of the machine, with a line for its letters, each state and what is accepted."""
    lines = ["letters " + machine.letters()]
    for row in machine.table():
        lines.append(_states_text("state", row))
    lines.append(_states_text("accepts", machine.accepts()))
    return "\n".join(lines)


def read_machine(text):
    """The machine whose text it is."""
    if not isinstance(text, str):
        raise NoText()
    lines = text.split("\n")
    letters = lines[0][len("letters "):]
    if not lines[0].startswith("letters ") or not is_letters(letters) or len(lines) < 3:
        raise NoText()
    many = len(lines) - 2
    table = tuple([_read_states("state", line, many) for line in lines[1:-1]])
    accepts = _read_states("accepts", lines[-1], many)
    if not all([row is not None and len(row) == len(letters) for row in table]):
        raise NoText()
    if accepts is None or not is_ascending(accepts):
        raise NoText()
    return machine_of_parts(letters, table, accepts)


def talk_text(messages):
    """The text of the messages, with a line for each."""
    if not _is_messages(messages):
        raise NoMessages()
    return "\n".join([hand + " " + bits for hand, bits in messages])


def read_talk(text):
    """The list of the messages whose text it is."""
    if not isinstance(text, str):
        raise NoText()
    if text == "":
        return []
    lines = text.split("\n")
    messages = [(line[:1], line[2:]) for line in lines]
    if not _is_messages(messages) or not all([line[1] == " " for line in lines]):
        raise NoText()
    return messages


def _states_text(head, states):
    """A line of states with its head."""
    return " ".join([head] + [str(state) for state in states])


def _read_states(head, line, many):
    """The tuple of states, of so many, whose line it is, or None if it is of none."""
    words = line.split(" ")
    states = [number_of(word, many - 1) for word in words[1:]]
    if words[0] != head or None in states:
        return None
    return tuple(states)


def _is_messages(thing):
    """Whether it is a list of messages of the hands A to D."""
    return isinstance(thing, list) and all([_is_message(part) for part in thing])


def _is_message(thing):
    """Whether it is a tuple of a hand and one bit or more."""
    if not isinstance(thing, tuple) or len(thing) != 2:
        return False
    return is_letter("ABCD", thing[0]) and is_word("01", thing[1]) and len(thing[1]) > 0
