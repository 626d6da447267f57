"""Point 26: thirds and spread."""

import random
import unittest

import support
from saidacross.accounts import account
from saidacross.deeds import deeds
from saidacross.errors import NoNumber, TooMany
from saidacross.halves import halves
from saidacross.machines import Machine, machine_of_parts
from saidacross.sayings import machine_of
from saidacross.thirds import spread, thirds
from test_accounts import ALWAYS
from test_answertables import plain_rank
from test_blocks import FIRST, RING
from test_deeds import EXCHANGES, HUNDRED, HUNDRED_AND_ONE, ORDER, counts
from test_gaps import ENDS
from test_halves import FAR, JUST, MORE, NEVER, around, letters_of, strings, turned
from test_pieces import CUBE


def plain_thirds(machine, ahead, middle, behind):
    """The tuple by tables of all strings written out."""
    letters = machine.letters()
    middles = [letters_of(told) for told in strings(letters, middle)]
    ends = [letters_of(told) for told in strings(letters, behind)]
    rows = set()
    for one in strings(letters, ahead):
        state = support.walk(machine, letters_of(one))
        heres = [support.walk(machine, word, state) for word in middles]
        for other in ends:
            rows.add(tuple(support.walk(machine, other, here) in machine.accepts() for here in heres))
    rows = sorted(rows)
    return (len(rows), len(set(zip(*rows))), plain_rank(rows))


# What is worked out by rests modulo this prime is right but for one chance in very many.
PRIME = 2 ** 127 - 1


def rank_by_rests(rows):
    """The rank of rows of rests."""
    left = rows
    many = 0
    for column in range(len(rows[0])):
        lead = [row for row in left if row[column] != 0]
        if lead:
            many += 1
            head = lead[0]
            times = pow(head[column], -1, PRIME)
            left = [[(x - row[column] * times * y) % PRIME for x, y in zip(row, head)]
                    if row[column] else row for row in left if row is not head]
    return many


def plain_tables(machine):
    """How many of the tables of all words are no sums of multiples of others."""
    first, steps, last = account(machine)
    size = len(first)
    if size == 0:
        return 0
    letters = {letter: [[p * pow(q, -1, PRIME) % PRIME for p, q in row] for row in steps[letter]]
               for letter in steps}
    # All tables are made of those of the deeds, each with its first word.
    tables = {"": [[int(at == other) for other in range(size)] for at in range(size)]}
    for word, _ in deeds(machine)[1:]:
        step = letters[word[-1]]
        tables[word] = [[sum(row[k] * step[k][at] for k in range(size) if row[k]) % PRIME
                         for at in range(size)] for row in tables[word[:-1]]]
    return rank_by_rests([[number for row in table for number in row] for table in tables.values()])


class ThirdsTest(unittest.TestCase):
    LENGTHS = [(0, 0, 0), (1, 0, 0), (0, 1, 0), (0, 0, 1), (1, 1, 0), (0, 1, 1), (1, 1, 1), (1, 2, 1),
               (2, 1, 1), (1, 1, 2), (0, 3, 1), (2, 2, 2), (3, 1, 0), (0, 2, 3), (1, 4, 1)]

    def test_all_strings_written_out(self):
        unlike = set()
        for machine in support.drawn_machines(531, 60) + [RING, FIRST, CUBE, NEVER, ALWAYS, ORDER]:
            many = len(machine.letters()) + 1
            for lengths in self.LENGTHS:
                if many ** sum(lengths) <= 1000:
                    result = thirds(machine, *lengths)
                    self.assertIsInstance(result, tuple)
                    self.assertEqual(result, plain_thirds(machine, *lengths))
                    unlike.add(result)
        self.assertGreater(len(unlike), 60)

    def test_longer_strings(self):
        source = random.Random(532)
        for _ in range(25):
            machine = support.drawn_machine(source, "ab"[:source.randint(1, 2)])
            if support.Plain(machine).deeds() is not None:
                for lengths in ((3, 3, 2), (2, 4, 2), (1, 5, 1)):
                    self.assertEqual(thirds(machine, *lengths), plain_thirds(machine, *lengths))

    def test_by_hand(self):
        self.assertEqual(thirds(NEVER, FAR, FAR, FAR), (1, 1, 0))
        self.assertEqual(thirds(ALWAYS, 0, FAR, 0), (1, 1, 1))
        self.assertEqual(thirds(FIRST, 0, 0, 0), (1, 1, 0))
        # The first letter is an a: A's, if there is one ahead, or the first one of B, or A's behind.
        self.assertEqual(thirds(FIRST, 1, 1, 1), (4, 3, 3))
        self.assertEqual(thirds(FIRST, 0, 1, 1), (2, 3, 2))
        self.assertEqual(thirds(FIRST, 1, FAR, 0), (3, 2, 2))
        self.assertEqual(thirds(counts(6), FAR, FAR, FAR), (6, 6, 6))
        self.assertEqual(thirds(counts(6), 1, 1, 1), (2, 2, 1))
        self.assertEqual(thirds(counts(6), 2, 3, 3), (5, 4, 4))

    def test_great_lengths_are_as_spread_tells(self):
        for machine in support.drawn_machines(533, 120) + [HUNDRED, ENDS, RING, CUBE, NEVER, counts(5, 5, 4)]:
            many, _, tables = spread(machine)
            top = thirds(machine, FAR, FAR, FAR)
            self.assertEqual(top[1:], (many, tables))
            self.assertEqual(thirds(machine, 120, 120, 120), top)
            self.assertEqual(thirds(machine, FAR, 100, 100), top)

    def test_without_places_behind_or_in_the_middle(self):
        for machine in support.drawn_machines(534, 60) + [HUNDRED, ENDS]:
            for ahead, behind in ((0, 1), (2, 1), (1, 3), (FAR, 2), (2, FAR), (FAR, FAR)):
                self.assertEqual(thirds(machine, ahead, behind, 0), halves(machine, ahead, behind))
                ones, others, rank = halves(machine, ahead, behind)
                self.assertEqual(thirds(machine, 0, ahead, behind), (others, ones, rank))
            ones, others, rank = thirds(machine, 3, 0, 3)
            self.assertEqual(max(ones, 1 + others) <= 2, True)
            self.assertEqual(rank, int(any(support.plainly_says(machine, letters_of(word))
                                           for word in support.words_up_to(machine.letters(), 6))))

    def test_read_from_behind(self):
        for machine in support.drawn_machines(535, 60):
            back = turned(machine)
            for lengths in ((0, 1, 2), (1, 1, 3), (2, FAR, 1), (5, 1, 0), (FAR, 3, FAR)):
                self.assertEqual(thirds(back, *lengths[::-1]), thirds(machine, *lengths))

    def test_unlike_strings_never_get_fewer(self):
        for machine in support.drawn_machines(536, 40):
            for at in range(3):
                few = thirds(machine, at, 2, 1)
                for more in (thirds(machine, at + 1, 2, 1), thirds(machine, at, 3, 1), thirds(machine, at, 2, 2)):
                    self.assertTrue(all(one <= other for one, other in zip(few, more)))

    def test_deeds_whose_first_words_are_long(self):
        machine = around(90)
        for middle in (0, 1, 40, 88, 89, 90, FAR):
            self.assertEqual(thirds(machine, FAR, middle, 0), (min(90, middle + 1 + (middle < 89)),)
                             + (min(90, middle + 1),) * 2)

    def test_wrong_lengths(self):
        wrong = [-1, FAR + 1, True, False, None, "1", [1], (2,), {}]
        odd = [v for v in support.odd_values() if type(v) is not int or not 0 <= v <= FAR]
        for machine in (FIRST, MORE, EXCHANGES):
            for length in wrong + odd:
                for lengths in ((length, 0, 0), (length, None, None), (3, length, -1), (0, FAR, length)):
                    with self.assertRaises(NoNumber):
                        thirds(machine, *lengths)

    def test_too_many(self):
        for machine in (MORE, turned(MORE), around(201)):
            for call in (lambda: thirds(machine, 0, 0, 0), lambda: spread(machine)):
                with self.assertRaises(TooMany) as caught:
                    call()
                self.assertEqual(caught.exception.most, 200)
        for machine in (JUST, turned(JUST), around(200), around(101), EXCHANGES, HUNDRED_AND_ONE):
            for call in (lambda: thirds(machine, 0, 0, 0), lambda: spread(machine)):
                with self.assertRaises(TooMany) as caught:
                    call()
                self.assertEqual(caught.exception.most, 100)
        self.assertEqual(thirds(around(100), FAR, FAR, FAR), (100, 100, 100))


class SpreadTest(unittest.TestCase):
    def test_by_deeds_account_and_tables(self):
        fewer = 0
        for machine in support.drawn_machines(541, 100) + [ENDS, RING, FIRST, CUBE, NEVER, ALWAYS, counts(3, 2, 2)]:
            result = spread(machine)
            self.assertIsInstance(result, tuple)
            self.assertEqual(result, (len(deeds(machine)), len(account(machine)[0]), plain_tables(machine)))
            fewer += result[2] < min(result[0], result[1] ** 2)
        self.assertGreater(fewer, 20)

    def test_by_hand(self):
        self.assertEqual(spread(NEVER), (1, 0, 0))
        self.assertEqual(spread(ALWAYS), (1, 1, 1))
        self.assertEqual(spread(FIRST), (3, 2, 3))
        self.assertEqual(spread(HUNDRED), (100, 5, plain_tables(HUNDRED)))
        self.assertEqual(spread(machine_of("ab", ("only", ""))), (2, 1, 1))
        # A table of noughts alone is left out: behind both letters nothing is said yes of.
        once = machine_of("a", ("and", ("least", "a", 1), ("not", ("least", "a", 2))))
        self.assertEqual(spread(once), (3, 2, 2))

    def test_many_exchanges(self):
        # Two letters turn and mirror a ring of fifty: a hundred deeds, none of which is lost.
        many = 50
        table = [((s + 1) % many, many + s) for s in range(many)]
        table += [(many + (s - 1) % many, s) for s in range(many)]
        for accepts, wanted in (((0,), (100, 100, 100)), ((0, 1, 7), (100, 100, 100)),
                                (tuple(range(50)), (2, 2, 2)), ((0, 50), (100, 50, 98))):
            machine = machine_of_parts("ab", tuple(table), accepts)
            self.assertEqual(spread(machine), wanted)
            self.assertEqual(thirds(machine, FAR, FAR, FAR)[1:], wanted[:1] + wanted[2:])


if __name__ == "__main__":
    unittest.main()
