"""Point 6: says, says_far, least, parting."""

import random
import unittest

import support
from saidacross.errors import NoNumber, NoWord, OtherLetters
from saidacross.machines import Machine, least, parting, says, says_far
from saidacross.sayings import machine_of

ORDER = Machine("ab", ((1, 2), (1, 3), (2, 2), (3, 3)), (1, 3))


def not_words(letters):
    """Values of every kind that are no words of these letters."""
    odd = [value for value in support.odd_values()
           if not isinstance(value, str) or set(value) - set(letters)]
    return odd + [letters + "?", "e", "." + letters, "A", ["a"], ("a",), letters + " "]


class SaysTest(unittest.TestCase):
    def test_example(self):
        told = [says(ORDER, word) for word in ("", "a", "ab", "ba", "aab")]
        self.assertEqual(told, [False, True, True, False, True])
        self.assertEqual(least(ORDER).table(), ((1, 2), (1, 1), (2, 2)))

    def test_by_the_table(self):
        source = random.Random(2)
        for _ in range(120):
            machine = support.drawn_machine(source)
            for word in support.words_up_to(machine.letters(), 3):
                self.assertIs(says(machine, word), support.plainly_says(machine, word))
            for _ in range(5):
                word = support.drawn_word(source, machine.letters(), 200)
                self.assertIs(says(machine, word), support.plainly_says(machine, word))

    def test_no_word(self):
        for letters in ("a", "ab", "bcd"):
            machine = Machine(letters, ((0,) * len(letters),), (0,))
            for word in not_words(letters):
                with self.assertRaises(NoWord):
                    says(machine, word)

    def test_other_letters_of_the_alphabet_are_no_word(self):
        with self.assertRaises(NoWord):
            says(Machine("bd", ((0, 0),), (0,)), "bcd")


class SaysFarTest(unittest.TestCase):
    def test_small_numbers(self):
        source = random.Random(3)
        for _ in range(80):
            machine = support.drawn_machine(source)
            for _ in range(4):
                word = support.drawn_word(source, machine.letters(), 6)
                for times in list(range(20)) + [64, 99]:
                    self.assertIs(says_far(machine, word, times),
                                  support.plainly_says(machine, word * times))

    def test_great_numbers(self):
        # A letter has a cycle of at most 6 states: 60 times more or fewer are the same.
        source = random.Random(4)
        for _ in range(60):
            machine = support.drawn_machine(source)
            word = support.drawn_word(source, machine.letters(), 5)
            for times in (10 ** 30, 10 ** 30 - 1, 10 ** 18 + 7, 2 ** 99, 2 ** 64 - 1):
                self.assertIs(says_far(machine, word, times),
                              support.plainly_says(machine, word * (times % 60 + 60)))

    def test_edges(self):
        ring = Machine("a", ((1,), (2,), (0,)), (1,))
        self.assertIs(says_far(ring, "a", 0), False)
        self.assertIs(says_far(ring, "a", 10 ** 30), True)
        self.assertIs(says_far(ring, "a", 10 ** 30 - 1), False)
        self.assertIs(says_far(ring, "", 10 ** 30), False)
        self.assertIs(says_far(Machine("a", ((0,),), (0,)), "", 0), True)

    def test_no_number(self):
        odd = [value for value in support.odd_values()
               if not isinstance(value, int) or isinstance(value, bool)
               or not 0 <= value <= 10 ** 30]
        for times in odd + [-1, 10 ** 30 + 1, True, False, "1", None]:
            with self.assertRaises(NoNumber):
                says_far(ORDER, "ab", times)

    def test_no_word_comes_first(self):
        for word in not_words("ab"):
            for times in (0, 1, -1, True, 10 ** 30 + 1, None):
                with self.assertRaises(NoWord):
                    says_far(ORDER, word, times)


class LeastTest(unittest.TestCase):
    def test_by_definition(self):
        source = random.Random(5)
        for _ in range(400):
            machine = support.drawn_machine(source)
            plain = support.Plain(machine)
            fewest = least(machine)
            self.assertIsInstance(fewest, Machine)
            self.assertEqual(fewest.letters(), machine.letters())
            self.assertEqual(fewest.table(), plain.table)
            self.assertEqual(fewest.accepts(), plain.accepts)
            self.assertEqual(least(fewest), fewest)

    def test_every_small_machine(self):
        for machine in support.every_machine("ab", 2):
            plain = support.Plain(machine)
            self.assertEqual(least(machine), Machine("ab", plain.table, plain.accepts))

    def test_states_that_are_never_reached(self):
        machine = Machine("ab", ((3, 0), (1, 2), (2, 1), (0, 3)), (1, 3))
        self.assertEqual(least(machine), Machine("ab", ((1, 0), (0, 1)), (1,)))
        machine = Machine("a", ((0,), (0,), (1,)), (1, 2))
        self.assertEqual(least(machine), Machine("a", ((0,),), ()))

    def test_states_that_say_alike(self):
        machine = Machine("a", ((1,), (2,), (3,), (4,), (5,), (0,)), (0, 2, 4))
        self.assertEqual(least(machine), Machine("a", ((1,), (0,)), (0,)))
        machine = Machine("ab", ((1, 2), (3, 3), (4, 4), (3, 3), (4, 4)), (1, 2, 3, 4))
        self.assertEqual(least(machine), Machine("ab", ((1, 1), (1, 1)), (1,)))

    def test_order_of_the_states(self):
        machine = Machine("ab", ((5, 3), (0, 0), (2, 2), (2, 1), (4, 4), (1, 4)), (1, 2, 3))
        fewest = least(machine)
        self.assertEqual(fewest.table(), ((1, 2), (3, 4), (5, 3), (0, 0), (4, 4), (5, 5)))
        self.assertEqual(fewest.accepts(), (2, 3, 5))

    def test_one_state(self):
        for accepts, told in (((), ()), ((0, 1, 2), (0,))):
            machine = Machine("abc", ((1, 2, 0), (2, 0, 1), (0, 1, 2)), accepts)
            self.assertEqual(least(machine), Machine("abc", ((0, 0, 0),), told))


class PartingTest(unittest.TestCase):
    def first(self, one, other, longest):
        for word in support.words_up_to(one.letters(), longest):
            if support.plainly_says(one, word) != support.plainly_says(other, word):
                return word
        return None

    def changed(self, source, machine):
        """The machine with one step changed."""
        rows = [list(row) for row in machine.table()]
        source.choice(rows)[source.randrange(len(rows[0]))] = source.randrange(len(rows))
        return Machine(machine.letters(), tuple(map(tuple, rows)), machine.accepts())

    def test_by_definition(self):
        # Two machines that say unlike at all do so of a word with fewer letters than both
        # have states.
        source = random.Random(6)
        parted = 0
        for _ in range(300):
            letters = "abcd"[:source.randint(1, 4)]
            most = 4 if len(letters) < 3 else 3
            one = support.drawn_machine(source, letters, source.randint(1, most))
            other = support.drawn_machine(source, letters, source.randint(1, most))
            if source.random() < 0.7:
                other = self.changed(source, one)
            told = parting(one, other)
            self.assertEqual(told, self.first(one, other, 7 if len(letters) < 3 else 5))
            self.assertEqual(parting(other, one), told)
            parted += told is not None and len(told) > 1
        self.assertGreater(parted, 20)

    def test_same_answers(self):
        self.assertIsNone(parting(ORDER, ORDER))
        self.assertIsNone(parting(ORDER, least(ORDER)))
        self.assertIsNone(parting(least(ORDER), ORDER))
        ring = Machine("a", ((1,), (2,), (3,), (4,), (5,), (0,)), (0, 3))
        self.assertIsNone(parting(ring, Machine("a", ((1,), (2,), (0,)), (0,))))

    def test_first_of_one_length(self):
        none = Machine("abc", ((0, 0, 0),), ())
        two = Machine("abc", ((1, 1, 2), (0, 0, 3), (0, 3, 3), (3, 3, 3)), (3,))
        self.assertEqual(parting(none, two), "ac")
        self.assertEqual(parting(Machine("a", ((0,),), (0,)), Machine("a", ((0,),), ())), "")

    def test_long_word(self):
        one = machine_of("ab", ("count", "b", 6, 0))
        other = machine_of("ab", ("and", ("count", "b", 6, 0), ("not", ("least", "a", 5))))
        self.assertEqual(parting(one, other), "aaaaa")
        five = Machine("a", ((1,), (2,), (3,), (4,), (0,)), (4,))
        six = Machine("a", ((1,), (2,), (3,), (4,), (5,), (0,)), (4,))
        self.assertEqual(parting(five, six), "a" * 9)

    def test_other_letters(self):
        for letters in ("a", "b", "ac", "abc"):
            other = Machine(letters, ((0,) * len(letters),), ())
            with self.assertRaises(OtherLetters):
                parting(ORDER, other)
            with self.assertRaises(OtherLetters):
                parting(other, ORDER)


if __name__ == "__main__":
    unittest.main()
