"""Tables of answers, and their ranks, by which nothing shorter can be."""

from saidacross.errors import NoDealing, NoTable, NoWritings
from saidacross.forms import is_between, is_word
from saidacross.machines import says
from saidacross.ranks import rank_of


def answers(machine, dealing, ones, others):
    """For each writing of A a list: for each writing of B 1 if the machine says yes, or 0."""
    if not is_word("AB", dealing) or dealing == "":
        raise NoDealing()
    if not _is_writings(machine.letters(), dealing.count("A"), ones):
        raise NoWritings()
    if not _is_writings(machine.letters(), dealing.count("B"), others):
        raise NoWritings()
    return [[int(says(machine, written(dealing, one, other).replace(".", "")))
             for other in others] for one in ones]


def rank(table):
    """The rank of the table over the fractions."""
    if not _is_table(table):
        raise NoTable()
    return rank_of(table)


def written(dealing, one, other):
    """The row in which A and B write these."""
    signs = []
    ours = 0
    for at, hand in enumerate(dealing):
        if hand == "A":
            signs.append(one[ours])
            ours += 1
        else:
            signs.append(other[at - ours])
    return "".join(signs)


def _is_writings(letters, many, thing):
    """Whether it is a list of strings of so many letters and empty places."""
    if not isinstance(thing, list):
        return False
    return all([is_word(letters + ".", one) and len(one) == many for one in thing])


def _is_table(thing):
    """Whether it is a list of 1 to 128 lists of as many integers, 1 to 128, none too great."""
    if not isinstance(thing, list) or not 1 <= len(thing) <= 128:
        return False
    if not all([isinstance(row, list) for row in thing]):
        return False
    width = len(thing[0])
    return 1 <= width <= 128 and all([len(row) == width and _is_numbers(row) for row in thing])


def _is_numbers(row):
    """Whether all items are integers from -10 ** 9 to 10 ** 9."""
    return all([is_between(item, -10 ** 9, 10 ** 9) for item in row])
