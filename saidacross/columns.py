"""Columns: what a machine says from each of its states if a word comes behind."""

from saidacross.growing import explored
from saidacross.walking import ends_of, then


def columns_of(fewest):
    """The columns of all words for a least machine, and a table; TooMany(200) columns.

    A column has 1 for yes and 0 for no of each state. The table tells for each column and each
    letter the column of the words with this letter ahead: so it is that of the least machine
    that reads from behind, and the columns whose first answer is yes are its accepted states.
    """
    letters = fewest.letters()
    steps = {letter: ends_of(letters, fewest.table(), letter) for letter in letters}
    accepted = {state: True for state in fewest.accepts()}
    start = tuple([int(state in accepted) for state in range(len(fewest.table()))])
    return explored(letters, start, lambda column, letter: then(steps[letter], column), 200)
