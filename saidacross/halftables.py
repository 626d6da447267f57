"""What the strings of two halves of a row do: those of A ahead, those of B behind."""

from saidacross.errors import TooMany
from saidacross.machines import least
from saidacross.walking import ends_of, first_words, then


class HalfTable:
    """What a machine says of all strings of A with all strings of B.

    What counts of a string of A is the state of the least machine to which it leads, and of
    one of B its column: for each state whether the machine says yes if it comes behind.
    """

    def __init__(self, machine):
        fewest = least(machine)
        many = len(fewest.table())
        if many > 200:
            raise TooMany(200)
        words = first_words(fewest.letters(), fewest.table())
        self.fewest = fewest
        # The least number of places for each state, and for each column.
        self.depths = [len(words[state]) for state in range(many)]
        self.columns, self.lengths = _columns(fewest)

    def states(self, ahead):
        """The states to which strings of A of so many places lead, by their first words."""
        # The states of the least machine are numbered in this order.
        return [state for state, depth in enumerate(self.depths) if depth <= ahead]

    def rows(self, ahead, behind):
        """For each of these states a tuple of the answers to all columns of so many places."""
        columns = [column for column, length in zip(self.columns, self.lengths)
                   if length <= behind]
        return [tuple([column[state] for column in columns]) for state in self.states(ahead)]

    def class_states(self, ahead, behind):
        """The first state of each class of alike strings of A, and the class of each state."""
        numbers = {}
        firsts = []
        classes = []
        for state, row in zip(self.states(ahead), self.rows(ahead, behind)):
            if row not in numbers:
                numbers[row] = len(firsts)
                firsts.append(state)
            classes.append(numbers[row])
        return firsts, classes


def _columns(fewest):
    """All columns, and the lengths of the shortest words that have them."""
    steps = [ends_of(fewest.letters(), fewest.table(), letter) for letter in fewest.letters()]
    start = tuple([int(state in fewest.accepts()) for state in range(len(fewest.table()))])
    columns = [start]
    lengths = {start: 0}
    at = 0
    while at < len(columns):
        column = columns[at]
        for step in steps:
            # The letter stands ahead of the word that has the column.
            more = then(step, column)
            if more not in lengths:
                lengths[more] = lengths[column] + 1
                columns.append(more)
        if len(columns) > 200:
            raise TooMany(200)
        at += 1
    return columns, [lengths[column] for column in columns]
