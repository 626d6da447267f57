"""Point 7: machine_of."""

import random
import unittest

import support
from saidacross.errors import NoSaying, TooMany
from saidacross.kinds import kind
from saidacross.machines import Machine, least
from saidacross.sayings import holds, machine_of
from test_sayings import drawn_saying, one_of_each


def both(*sayings):
    """A saying that all of these are so."""
    if len(sayings) == 1:
        return sayings[0]
    half = len(sayings) // 2
    return ("and", both(*sayings[:half]), both(*sayings[half:]))


def count(letter, many, rest=0):
    return ("count", letter, many, rest)


# Of the letters abcd: 5 * 5 * 2 * 4 states.
TWO_HUNDRED = both(count("a", 5), count("b", 5), count("c", 2), count("d", 4))
# One state ahead of the cut, and 200 behind it.
ONE_MORE = ("cut", "a", ("only", "abcd"), TWO_HUNDRED)
FAR_MORE = both(count("a", 6), count("b", 6), count("c", 6))


class MachineOfTest(unittest.TestCase):
    def check(self, letters, saying, longest):
        machine = machine_of(letters, saying)
        self.assertIsInstance(machine, Machine)
        self.assertEqual(machine.letters(), letters)
        self.assertEqual(least(machine), machine)
        for word in support.words_up_to(letters, longest):
            self.assertEqual(support.plainly_says(machine, word), holds(letters, saying, word))
        return machine

    def check_far(self, source, letters, saying, machine):
        for _ in range(20):
            word = support.drawn_word(source, letters, 40)
            self.assertEqual(support.plainly_says(machine, word), holds(letters, saying, word))

    def test_each_kind(self):
        source = random.Random(21)
        for saying in one_of_each():
            machine = self.check("ab", saying, 7)
            self.check_far(source, "ab", saying, machine)

    def test_drawn(self):
        source = random.Random(22)
        for _ in range(250):
            letters = source.choice(["a", "ab", "bcz", "abcd"])
            saying = drawn_saying(source, letters, source.randint(1, 5))
            longest = {1: 12, 2: 7, 3: 5, 4: 4}[len(letters)]
            machine = self.check(letters, saying, longest)
            self.check_far(source, letters, saying, machine)

    def test_states_are_fewest_and_in_order(self):
        # Each two states are parted by a word that `holds` tells of, and the first words
        # that lead to the states ascend.
        source = random.Random(23)
        for _ in range(60):
            saying = drawn_saying(source, "ab", 3)
            machine = machine_of("ab", saying)
            if len(machine.table()) > 12:
                continue
            firsts = {}
            for word in support.words_up_to("ab", 9):
                firsts.setdefault(support.walk(machine, word), word)
            self.assertEqual(list(firsts), list(range(len(machine.table()))))
            tails = support.words_up_to("ab", 9)
            for one in firsts:
                for other in range(one):
                    self.assertTrue(any(holds("ab", saying, firsts[one] + tail)
                                        != holds("ab", saying, firsts[other] + tail)
                                        for tail in tails))

    def test_by_hand(self):
        cases = [
            (("first", "a"), ((1, 2), (1, 1), (2, 2)), (1,)),
            (("last", "b"), ((0, 1), (0, 1)), (1,)),
            (("count", "a", 3, 2), ((1, 0), (2, 1), (0, 2)), (2,)),
            (("count", "b", 1, 0), ((0, 0),), (0,)),
            (("least", "b", 2), ((0, 1), (1, 2), (2, 2)), (2,)),
            (("in", "ba"), ((0, 1), (2, 1), (2, 2)), (2,)),
            (("row", "ba"), ((0, 1), (2, 1), (2, 2)), (2,)),
            (("row", "aab"), ((1, 0), (2, 0), (2, 3), (3, 3)), (3,)),
            (("only", "ab"), ((0, 0),), (0,)),
            (("only", "a"), ((0, 1), (1, 1)), (0,)),
            (("only", ""), ((1, 1), (1, 1)), (0,)),
            (("not", ("only", "ab")), ((0, 0),), ()),
            (("cut", "a", ("only", ""), ("only", "b")), ((1, 2), (2, 1), (2, 2)), (1,)),
            (("cutlast", "b", ("last", "a"), ("only", "")), ((1, 0), (1, 2), (1, 0)), (2,)),
        ]
        for saying, table, accepts in cases:
            self.assertEqual(machine_of("ab", saying), Machine("ab", table, accepts))

    def test_exactly_200_states(self):
        machine = machine_of("abcd", TWO_HUNDRED)
        self.assertEqual(len(machine.table()), 200)
        self.assertEqual(least(machine), machine)
        self.assertEqual(machine_of("abcd", ("not", ("not", TWO_HUNDRED))), machine)
        source = random.Random(24)
        self.check_far(source, "abcd", TWO_HUNDRED, machine)
        self.assertTrue(support.plainly_says(machine, "aaaaabbbbbccdddd"))

    def too_many(self, letters, saying):
        with self.assertRaises(TooMany) as caught:
            machine_of(letters, saying)
        self.assertEqual(caught.exception.most, 200)

    def test_more_than_200_states(self):
        self.too_many("abcd", ONE_MORE)
        self.too_many("abc", FAR_MORE)
        self.too_many("abcd", FAR_MORE)

    def test_only_a_saying_inside_has_more(self):
        for inner in (ONE_MORE, FAR_MORE):
            for saying in (("and", inner, ("only", "")), ("and", ("only", ""), inner),
                           ("or", inner, ("only", "abcd")), ("or", ("only", "abcd"), inner),
                           ("cut", "a", inner, ("not", ("only", "abcd"))),
                           ("cut", "a", ("not", ("only", "abcd")), inner),
                           ("cutlast", "d", inner, ("not", ("only", "abcd"))),
                           ("cutlast", "d", ("not", ("only", "abcd")), inner)):
                self.too_many("abcd", saying)
        # Ahead of the first a there is no a: but the machine of the saying itself counts.
        self.too_many("abc", ("cut", "a", FAR_MORE, ("only", "abc")))
        self.assertEqual(len(machine_of("abcd", ("and", TWO_HUNDRED, ("only", ""))).table()), 2)

    def test_holds_tells_of_these_too(self):
        self.assertIs(holds("abc", FAR_MORE, "aaabbbccc" * 2), True)
        self.assertIs(holds("abc", FAR_MORE, "aaabbbccc"), False)
        self.assertIs(holds("abcd", ("not", ONE_MORE), "ba"), False)

    def test_no_saying_comes_ahead_of_too_many(self):
        with self.assertRaises(NoSaying):
            machine_of("abc", ("and", FAR_MORE, ("first", "d")))

    def test_at_most_digits_without_long_rows(self):
        source = random.Random(25)
        seen = []
        for _ in range(150):
            letters = source.choice(["ab", "abc"])
            saying = drawn_saying(source, letters, source.randint(1, 4), row=False)
            try:
                seen.append(kind(machine_of(letters, saying)))
            except TooMany:
                continue
        self.assertEqual(set(seen), {"fixed", "digits"})
        self.assertGreater(seen.count("digits"), 20)


if __name__ == "__main__":
    unittest.main()
