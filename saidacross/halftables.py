"""What the strings of two halves of a row do: those of A ahead, those of B behind."""

from saidacross.columns import columns_of
from saidacross.errors import NoNumber, TooMany
from saidacross.forms import is_between
from saidacross.machines import least
from saidacross.walking import first_words


class HalfTable:
    """What a machine says of all strings of A with all strings of B.

    What counts of a string of A is the state of the least machine to which it leads, and of
    one of B its column: for each state whether the machine says yes if it comes behind.
    """

    def __init__(self, machine):
        fewest = least(machine)
        if len(fewest.table()) > 200:
            raise TooMany(200)
        self.fewest = fewest
        self.columns, turned = columns_of(fewest)
        # The least number of places for each state, and for each column.
        self.depths = _depths(fewest.letters(), fewest.table())
        self.lengths = _depths(fewest.letters(), turned)

    def states(self, ahead):
        """The states to which strings of A of so many places lead, by their first words."""
        # The states of the least machine are numbered in this order.
        return [state for state, depth in enumerate(self.depths) if depth <= ahead]

    def columns_within(self, behind):
        """The columns of the strings of B of so many places."""
        return [column for column, length in zip(self.columns, self.lengths)
                if length <= behind]

    def rows(self, ahead, behind):
        """For each of these states a tuple of the answers to all columns of so many places."""
        columns = self.columns_within(behind)
        return [tuple([column[state] for column in columns]) for state in self.states(ahead)]

    def class_states(self, ahead, behind):
        """The first state of each class of alike strings of A, and the class of each state."""
        numbers = {}
        firsts = []
        classes = []
        for state, row in zip(self.states(ahead), self.rows(ahead, behind)):
            if row not in numbers:
                numbers[row] = len(firsts)
                firsts.append(state)
            classes.append(numbers[row])
        return firsts, classes


def check_lengths(lengths):
    """Raises the error of a length that is none."""
    for length in lengths:
        if not is_between(length, 0, 10 ** 30):
            raise NoNumber()


def _depths(letters, table):
    """The length of the first word that leads to each state of a table, in their order."""
    words = first_words(letters, table)
    return [len(words[state]) for state in range(len(table))]
