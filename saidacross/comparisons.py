"""Accounts compared with machines, word by word."""

from saidacross.growing import stepped
from saidacross.machines import least
from saidacross.spans import Span
from saidacross.weights import Weights


class Comparison:
    """The words that must be looked at, in the order of strings.

    Of each word the tables make numbers. For each state of the machine those of the first word
    that leads there are kept. Of a later one that leads there only its difference to the first
    one counts: it must be worth nothing. And if it is a sum of multiples of differences that
    came ahead of it, it is worth nothing as they are, and so is all that is made of it by more
    letters. Therefore only what is new in it goes on.
    """

    def __init__(self, machine, thing):
        self._weights = Weights(thing)
        self._fewest = least(machine)
        self._firsts = {0: self._weights.first}
        self._differences = Span()
        # Tuples (numbers with their divisor, state), the state None for a difference.
        self._items = [(self._weights.first, 0)]
        # Of each of them the index of the one of which it was made, and the letter.
        self._back = [None]

    def first_unlike(self):
        """The first word whose value is not what the machine says, or None."""
        if self._is_wrong(self._items[0]):
            return ""
        at = 0
        while at < len(self._items):
            for letter in self._fewest.letters():
                item = self._next(self._items[at], letter)
                if item is not None:
                    self._items.append(item)
                    self._back.append((at, letter))
                    if self._is_wrong(item):
                        return self._last_word()
            at += 1
        return None

    def _next(self, item, letter):
        """What the letter makes of an item, or None if it is nothing new."""
        told, state = item
        numbers, divisor = self._weights.moved(told, letter)
        if state is None:
            return self._difference(numbers)
        to = stepped(self._fewest, state, letter)
        if to not in self._firsts:
            self._firsts[to] = (numbers, divisor)
            return ((numbers, divisor), to)
        others, other = self._firsts[to]
        return self._difference([one * other - two * divisor for one, two in zip(numbers, others)])

    def _difference(self, numbers):
        """The item of what is new in a difference, or None if nothing is."""
        fresh = self._differences.take(numbers)
        return None if fresh is None else ((fresh, 1), None)

    def _is_wrong(self, item):
        """Whether an item is not worth what it should be."""
        told, state = item
        yes = state is not None and state in self._fewest.accepts()
        return self._weights.ending(told) != (int(yes), 1)

    def _last_word(self):
        """The word of the last item."""
        signs = []
        step = self._back[-1]
        while step is not None:
            at, letter = step
            signs.append(letter)
            step = self._back[at]
        return "".join(reversed(signs))
