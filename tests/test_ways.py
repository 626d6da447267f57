"""Point 17: how many bits are said at most, and the ways."""

import random
import unittest

import support
from saidacross.books import book
from saidacross.deeds import deeds
from saidacross.errors import NoDealing, NoWay, TooMany
from saidacross.kinds import fixed, kind
from saidacross.machines import least
from saidacross.sayings import machine_of
from saidacross.talks import Talk, cheapest, most_bits, ways
from test_blocks import FIRST, RING, THREE
from test_books import FIVE, STEPS
from test_dealings import NO_DEALINGS, drawn_dealing, drawn_row, hands_of
from test_deeds import EXCHANGES, HUNDRED, HUNDRED_AND_ONE, counts
from test_gaps import ENDS
from test_pieces import CUBE
from test_talks import DEEP, LATE, MIXED, NEVER, TURNS


def figures(number):
    return len(bin(number)) - 2


def changes(dealing):
    """How many stretches there are."""
    return 1 + sum(one != other for one, other in zip(dealing, dealing[1:]))


def bound(machine, dealing, way):
    """What point 17 says."""
    h = len(hands_of(dealing))
    q = changes(dealing)
    if way == "sums":
        return h * figures(len(deeds(machine)))
    if way == "passed":
        return q * figures(len(least(machine).table()))
    k = len(machine.letters())
    t = max(depth for depth, _ in book(machine).values())
    return 8 * h * (k + 1) * (3 * t + 3) ** k * (figures(q) + 7)


class MostBitsTest(unittest.TestCase):
    def test_bounds(self):
        source = random.Random(261)
        machines = support.drawn_machines(262, 150)
        for machine in machines + [DEEP, ENDS, FIVE, STEPS, CUBE, NEVER, HUNDRED, counts(5, 5, 4),
                                    MIXED, TURNS, LATE]:
            for way in ways(machine):
                for dealing in ("A", "D", "AB", "ABCD" * 100, "B" * 400, drawn_dealing(source, 60)):
                    told = most_bits(machine, dealing, way)
                    self.assertIs(type(told), int)
                    self.assertGreaterEqual(told, 0)
                    self.assertLessEqual(told, bound(machine, dealing, way))
                    self.assertEqual(most_bits(machine, dealing, way), told)

    def test_never_more_are_said(self):
        source = random.Random(263)
        for machine in support.drawn_machines(264, 120) + [DEEP, ENDS, FIVE, STEPS] * 5:
            for way in ways(machine):
                dealing = drawn_dealing(source, source.choice([2, 30, 120]))
                most = most_bits(machine, dealing, way)
                for _ in range(4):
                    talk = Talk(machine, dealing, drawn_row(source, machine.letters(), dealing), way)
                    talk.run()
                    self.assertLessEqual(talk.bits(), most)

    def test_rows_of_which_much_is_said(self):
        # Each hand has each letter wherever it is asked for it, and there are many pieces.
        for n in (1, 2, 5):
            machine = machine_of("a", ("count", "a", n, 0))
            for hands in ("A", "AB", "ABCD"):
                for many in (1, 9, 100):
                    dealing = hands * many
                    self.check_most(machine, dealing, "a" * len(dealing), "book")
        one = machine_of("a", ("least", "a", 4))
        self.check_most(one, "ABCD" * 30, "a" * 120, "book")
        for machine in (DEEP, ENDS, LATE, TURNS, MIXED):
            for side in range(1, 4):
                row = self.nested(machine.letters(), side)
                self.check_most(machine, ("ABCD" * len(row))[:len(row)], row, "book")
                row = "".join(letter * 4 for letter in row)
                self.check_most(machine, ("ABCD" * len(row))[:len(row)], row, "book")

    def check_most(self, machine, dealing, row, way):
        talk = Talk(machine, dealing, row, way)
        talk.run()
        self.assertLessEqual(talk.bits(), most_bits(machine, dealing, way))

    def nested(self, letters, many):
        """A row of so many pieces whose parts have all other letters, and so have these."""
        if letters == "":
            return ""
        inner = self.nested(letters[:-1], many)
        return (inner + letters[-1]) * many + inner + (letters[-1] + inner) * many

    def test_book_does_not_grow_with_the_lengths_of_stretches(self):
        for machine in (FIRST, DEEP, ENDS, FIVE, CUBE):
            for short in ("A", "AB", "ABAC", "DA" * 9):
                told = most_bits(machine, short, "book")
                for many in (2, 7, 22):
                    long = "".join(hand * many for hand in short)
                    self.assertEqual(most_bits(machine, long, "book"), told)

    def test_book_grows_as_the_figures_do(self):
        for machine in (FIRST, DEEP, ENDS, FIVE):
            costs = [most_bits(machine, ("AB" * 128)[:q], "book") for q in (128, 131, 200, 255)]
            self.assertEqual(len(set(costs)), 1)
            tens = [most_bits(machine, ("AB" * 300)[:2 ** f], "book") for f in range(3, 9)]
            steps = {after - before for before, after in zip(tens, tens[1:])}
            self.assertEqual(len(steps), 1)
            self.assertLess(max(tens), 400 * 256)

    def test_no_bits_of_what_is_known(self):
        self.assertEqual([most_bits(NEVER, "ABAB", way) for way in ("sums", "passed")], [0, 0])

    def test_wrong(self):
        for machine in (FIRST, EXCHANGES):
            for dealing in NO_DEALINGS + [v for v in support.odd_values() if v != "A"]:
                with self.assertRaises(NoDealing):
                    most_bits(machine, dealing, None)
        for machine in (EXCHANGES, HUNDRED_AND_ONE, counts(6, 6, 5)):
            for way in ("passed", "sums", "book", "", None):
                with self.assertRaises(TooMany) as caught:
                    most_bits(machine, "AB", way)
                self.assertEqual(caught.exception.most, 100)
        for way in support.odd_values() + ["", "Sums", "books", ["sums"]]:
            with self.assertRaises(NoWay):
                most_bits(CUBE, "AB", way)
        for machine, way in ((FIRST, "sums"), (RING, "sums"), (RING, "book")):
            with self.assertRaises(NoWay):
                most_bits(machine, "AB", way)


class WaysTest(unittest.TestCase):
    BY_KIND = {"fixed": ["sums", "book", "passed"], "digits": ["book", "passed"], "length": ["passed"]}

    def test_by_definition(self):
        seen = set()
        for machine in support.drawn_machines(265, 150) + [HUNDRED, ENDS, counts(5, 5, 4)]:
            there = {"sums": fixed(machine), "book": book(machine) is not None, "passed": True}
            self.assertEqual(ways(machine), [way for way in there if there[way]])
            self.assertEqual(ways(machine), self.BY_KIND[kind(machine)])
            seen.add(kind(machine))
        self.assertEqual(seen, set(self.BY_KIND))

    def test_lists_are_new(self):
        ways(CUBE).clear()
        self.assertEqual(ways(CUBE), ["sums", "book", "passed"])

    def test_too_many(self):
        for machine in (EXCHANGES, HUNDRED_AND_ONE, counts(6, 6, 5)):
            with self.assertRaises(TooMany) as caught:
                ways(machine)
            self.assertEqual(caught.exception.most, 100)


class CheapestTest(unittest.TestCase):
    def test_by_definition(self):
        source = random.Random(266)
        seen = set()
        for machine in support.drawn_machines(267, 120) + [FIRST, CUBE, NEVER, ENDS]:
            for dealing in (drawn_dealing(source, 60), "AB" * 200, "A"):
                costs = [most_bits(machine, dealing, way) for way in ways(machine)]
                told = cheapest(machine, dealing)
                self.assertEqual(told, ways(machine)[costs.index(min(costs))])
                seen.add(told)
        self.assertEqual(seen, {"sums", "book", "passed"})

    def test_first_of_equal_ones(self):
        self.assertEqual(cheapest(NEVER, "AB"), "sums")

    def test_one_way_alone(self):
        for machine in (RING, THREE):
            self.assertEqual(cheapest(machine, "ABCD" * 100), "passed")

    def test_wrong(self):
        for machine in (FIRST, EXCHANGES):
            for dealing in NO_DEALINGS + [v for v in support.odd_values() if v != "A"]:
                with self.assertRaises(NoDealing):
                    cheapest(machine, dealing)
        for machine in (EXCHANGES, HUNDRED_AND_ONE, counts(6, 6, 5)):
            with self.assertRaises(TooMany) as caught:
                cheapest(machine, "AB")
            self.assertEqual(caught.exception.most, 100)


if __name__ == "__main__":
    unittest.main()
