"""Sayings: tuples that tell of words, and machines that say the same."""

from saidacross.errors import NoLetters, NoSaying, NoWord
from saidacross.forms import is_letters, is_word
from saidacross.sayingforms import is_saying
from saidacross.sayingmachines import machine_of_saying


def holds(letters, saying, word):
    """Whether the saying is so of the word."""
    _check(letters, saying)
    if not is_word(letters, word):
        raise NoWord()
    return _is_so(saying, word)


def machine_of(letters, saying):
    """The least machine that says yes of just the words of which the saying is so."""
    _check(letters, saying)
    return machine_of_saying(letters, saying)


def _check(letters, saying):
    """Raises the error of the letters or of the saying."""
    if not is_letters(letters):
        raise NoLetters()
    if not is_saying(letters, saying, 6):
        raise NoSaying()


def _is_so(saying, word):
    """Whether what is known to be a saying is so of the word."""
    head = saying[0]
    if head == "not":
        return not _is_so(saying[1], word)
    if head == "and":
        return _is_so(saying[1], word) and _is_so(saying[2], word)
    if head == "or":
        return _is_so(saying[1], word) or _is_so(saying[2], word)
    if head == "cut":
        return _is_so_cut(saying, word, word.find(saying[1]))
    if head == "cutlast":
        return _is_so_cut(saying, word, word.rfind(saying[1]))
    return _is_so_plainly(saying, word)


def _is_so_cut(saying, word, at):
    """Whether the two sayings are so of the parts beside this place, below 0 if there is none."""
    return at >= 0 and _is_so(saying[2], word[:at]) and _is_so(saying[3], word[at + 1:])


def _is_so_plainly(saying, word):
    """Whether a saying without others in it is so of the word."""
    head, told = saying[0], saying[1]
    if head == "first":
        return word.startswith(told)
    if head == "last":
        return word.endswith(told)
    if head == "count":
        return word.count(told) % saying[2] == saying[3]
    if head == "least":
        return word.count(told) >= saying[2]
    if head == "in":
        return _stands_in(told, word)
    if head == "row":
        return told in word
    return all([letter in told for letter in word])


def _stands_in(part, word):
    """Whether the letters of the part stand in the word in this order."""
    at = 0
    for letter in word:
        if at < len(part) and letter == part[at]:
            at += 1
    return at == len(part)
