"""The deeds of a machine with numbers, so that they are done by a table."""

from saidacross.deeds import deeds
from saidacross.machines import least
from saidacross.walking import ends_of, then


class Doings:
    """The deeds of a machine, at most 100, numbered in the order of `deeds`.

    `words` and `moves` are the first words and the deeds themselves, `follow[k][x]` is
    the number of the deed k with the letter x behind it, and `both[j][k]` the number of
    the deed j, then k.
    """

    def __init__(self, machine):
        told = deeds(machine)
        self.words = [pair[0] for pair in told]
        self.moves = [pair[1] for pair in told]
        letters = machine.letters()
        table = least(machine).table()
        steps = [ends_of(letters, table, letter) for letter in letters]
        self.follow = _follow(letters, steps, self.moves)
        self.both = _both(self.words, self.follow)

    def number(self, word):
        """The number of the deed of the word."""
        at = 0
        for letter in word:
            at = self.follow[at][letter]
        return at

    def run(self, numbers):
        """The number of the deed of doing these, one behind the other."""
        at = 0
        for number in numbers:
            at = self.both[at][number]
        return at

    def times(self, number, many):
        """The number of the deed of doing this one `many` times."""
        found = 0
        power = number
        left = many
        while left > 0:
            if left % 2 == 1:
                found = self.both[found][power]
            power = self.both[power][power]
            left = left // 2
        return found

    def is_steady(self, number):
        """Whether doing it twice is the deed itself."""
        return self.both[number][number] == number


def _follow(letters, steps, moves):
    """For each deed a dict from the letters to the number of it with the letter behind."""
    numbers = {row: at for at, row in enumerate(moves)}
    follow = []
    for row in moves:
        follow.append({letter: numbers[then(row, step)] for letter, step in zip(letters, steps)})
    return follow


def _both(words, follow):
    """For each deed a list: for each deed the number of doing the one, then the other."""
    places = {word: at for at, word in enumerate(words)}
    both = []
    for at in range(len(words)):
        row = [at]
        # What is left of a first word without its last letter is a first word, too.
        for word in words[1:]:
            row.append(follow[row[places[word[:-1]]]][word[-1]])
        both.append(row)
    return both
