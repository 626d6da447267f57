"""Points 10 and 14: fixed, swap, swap_fault, kind."""

import random
import unittest

import support
from saidacross.blocks import block
from saidacross.books import book
from saidacross.errors import TooMany
from saidacross.kinds import fixed, kind, swap, swap_fault
from saidacross.machines import Machine, least, says
from saidacross.sayings import machine_of
from test_deeds import EXCHANGES, HUNDRED_AND_ONE, counts

FIRST = Machine("ab", ((1, 2), (1, 1), (2, 2)), (1,))
RING = Machine("ab", ((1, 2), (2, 0), (2, 2)), (0,))
EVEN = Machine("ab", ((1, 0), (0, 1)), (0,))


def plainly_fixed(machine):
    plain = support.Plain(machine)
    return all(plain.deed(a + b) == plain.deed(b + a)
               for a in machine.letters() for b in machine.letters())


class FixedTest(unittest.TestCase):
    def test_by_definition(self):
        source = random.Random(51)
        seen = {True: 0, False: 0}
        for _ in range(600):
            machine = support.drawn_machine(source)
            self.assertIs(fixed(machine), plainly_fixed(machine))
            seen[fixed(machine)] += len(machine.letters()) > 1
        self.assertGreater(min(seen.values()), 30)

    def test_every_small_machine(self):
        for machine in support.every_machine("ab", 2):
            self.assertIs(fixed(machine), plainly_fixed(machine))

    def test_only_the_last_two_letters(self):
        # The letters but the last two do nothing.
        table = ((0, 0, 1, 2), (1, 1, 1, 1), (2, 2, 2, 2))
        self.assertIs(fixed(Machine("abcd", table, (1,))), False)
        self.assertEqual(set(swap(Machine("abcd", table, (1,)))[1:3]), {"c", "d"})

    def test_the_least_machine_counts(self):
        # States 1 and 2 say alike: so it does not matter to which of them ab and ba lead.
        machine = Machine("ab", ((1, 2), (1, 1), (2, 2)), (1, 2))
        self.assertIs(fixed(machine), True)
        self.assertIsNone(swap(machine))
        unreached = Machine("ab", ((0, 0), (2, 3), (2, 2), (3, 3)), (2,))
        self.assertIs(fixed(unreached), True)
        self.assertIsNone(swap(unreached))

    def test_one_letter_is_fixed(self):
        source = random.Random(52)
        for _ in range(40):
            machine = support.drawn_machine(source, "q")
            self.assertIs(fixed(machine), True)
            self.assertIsNone(swap(machine))


class SwapTest(unittest.TestCase):
    def check(self, machine):
        told = swap(machine)
        self.assertEqual(told is None, plainly_fixed(machine))
        self.assertEqual(swap(machine), told)
        if told is None:
            return
        self.assertIsInstance(told, tuple)
        u, a, b, v = told
        most = len(least(machine).table())
        for word in (u, v):
            self.assertLessEqual(set(word), set(machine.letters()))
            self.assertLessEqual(len(word), most)
        self.assertIn(a, list(machine.letters()))
        self.assertIn(b, list(machine.letters()))
        self.assertTrue(support.plainly_says(machine, u + a + b + v))
        self.assertFalse(support.plainly_says(machine, u + b + a + v))
        self.assertIsNone(swap_fault(machine, told))

    def test_drawn(self):
        source = random.Random(53)
        for _ in range(500):
            self.check(support.drawn_machine(source))

    def test_every_small_machine(self):
        for machine in support.every_machine("ab", 2):
            self.check(machine)

    def test_more_than_100_deeds(self):
        for machine in (EXCHANGES, HUNDRED_AND_ONE):
            self.check(machine)
            self.assertIs(fixed(machine), False)
            self.assertIsNone(swap_fault(machine, swap(machine)))
            self.assertEqual(swap_fault(machine, None), ("form",))
        self.assertIs(fixed(counts(6, 6, 5)), True)
        self.assertIsNone(swap(counts(6, 6, 5)))
        self.assertEqual(swap_fault(counts(6, 6, 5), ("", "a", "b", "")), ("no",))
        self.assertEqual(swap_fault(counts(6, 6, 5), ("", "d", "d", "")), ("alike",))

    def test_words_that_are_needed(self):
        # The swap counts only behind cc, and is seen only behind dd.
        machine = machine_of("abcd", ("in", "ccab"))
        self.check(machine)
        self.assertGreaterEqual(swap(machine)[0].count("c"), 2)
        machine = machine_of("abcd", ("in", "abdd"))
        self.check(machine)


class SwapFaultTest(unittest.TestCase):
    def test_form(self):
        bad = [(), ("", "a", "b"), ("", "a", "b", "", ""), ["", "a", "b", ""], ("", "a", "c", ""),
               ("", "c", "b", ""), ("c", "a", "b", ""), ("", "a", "b", "c"), ("", "", "b", ""),
               ("", "a", "", ""), ("", "ab", "b", ""), ("", "a", "ab", ""), ("", "a", "b", None),
               (None, "a", "b", ""), ("", 0, "b", ""), ("", "a", True, ""), ("", ["a"], "b", ""),
               ("", "a", ("b",), ""), ([], "a", "b", ""), ("", "a", "b", []), "aabb", "ab",
               ("", "A", "b", ""), (("",), "a", "b", ""), {"": 1, "a": 2, "b": 3, "c": 4},
               ("", "a", "b", "a."), (" ", "a", "b", "")]
        for thing in bad + support.odd_values():
            self.assertEqual(swap_fault(FIRST, thing), ("form",))

    def test_no_and_alike(self):
        self.assertIsNone(swap_fault(FIRST, ("", "a", "b", "")))
        self.assertIsNone(swap_fault(FIRST, ("", "a", "b", "ab" * 90)))
        self.assertEqual(swap_fault(FIRST, ("", "b", "a", "")), ("no",))
        self.assertEqual(swap_fault(FIRST, ("b", "a", "b", "")), ("no",))
        self.assertEqual(swap_fault(FIRST, ("a", "a", "b", "")), ("alike",))
        self.assertEqual(swap_fault(FIRST, ("", "a", "a", "")), ("alike",))
        self.assertEqual(swap_fault(FIRST, ("", "b", "b", "")), ("no",))

    def test_by_definition(self):
        source = random.Random(54)
        seen = set()
        for _ in range(600):
            machine = support.drawn_machine(source)
            letters = machine.letters()
            u, v = (support.drawn_word(source, letters, 4) for _ in range(2))
            a, b = source.choice(letters), source.choice(letters)
            told = None
            if not says(machine, u + a + b + v):
                told = ("no",)
            elif says(machine, u + b + a + v):
                told = ("alike",)
            self.assertEqual(swap_fault(machine, (u, a, b, v)), told)
            seen.add(told)
        self.assertEqual(seen, {None, ("no",), ("alike",)})


class KindTest(unittest.TestCase):
    def test_examples(self):
        self.assertEqual(kind(EVEN), "fixed")
        self.assertEqual(kind(FIRST), "digits")
        self.assertEqual(kind(RING), "length")

    def test_known_kinds(self):
        cases = {
            "fixed": [("count", "a", 6, 2), ("least", "b", 5), ("only", "a"), ("only", ""),
                      ("and", ("count", "a", 2, 0), ("least", "b", 3)), ("in", "aa"),
                      ("or", ("least", "a", 2), ("count", "b", 3, 1)), ("row", "a")],
            "digits": [("first", "a"), ("last", "b"), ("in", "ab"), ("in", "abab"),
                       ("cut", "a", ("count", "b", 2, 0), ("only", "ab")),
                       ("cutlast", "b", ("least", "a", 2), ("count", "a", 3, 0)),
                       ("and", ("first", "a"), ("last", "b"))],
            "length": [("row", "aa"), ("row", "aba"), ("and", ("row", "aa"), ("row", "bb")),
                       ("not", ("row", "bb")), ("or", ("row", "aa"), ("row", "bb"))],
        }
        for told in cases:
            for saying in cases[told]:
                self.assertEqual(kind(machine_of("ab", saying)), told, saying)
        # Of a and b alone, an a that is ahead of a b is right ahead of one somewhere.
        self.assertEqual(kind(machine_of("ab", ("row", "ab"))), "digits")
        self.assertEqual(kind(machine_of("abc", ("row", "ab"))), "length")

    def test_groups(self):
        three = Machine("ab", ((1, 1), (2, 0), (0, 2)), (0,))
        self.assertEqual(kind(three), "length")
        self.assertEqual(kind(Machine("ab", ((1, 2), (2, 0), (0, 1)), (0,))), "fixed")

    def test_dead_ends(self):
        self.assertEqual(kind(Machine("ab", ((1, 2), (2, 0), (2, 2)), (1,))), "length")
        self.assertEqual(kind(Machine("ab", ((1, 3), (2, 3), (0, 3), (3, 3)), (0,))), "fixed")
        # The letters stand in turn, but only twice: no ring.
        self.assertEqual(kind(Machine("ab", ((1, 3), (3, 2), (3, 3), (3, 3)), (2,))), "digits")

    def test_by_definition(self):
        seen = {"fixed": 0, "digits": 0, "length": 0}
        for machine in support.drawn_machines(55, 150, 40):
            told = "length"
            if plainly_fixed(machine):
                told = "fixed"
            elif support.Plain(machine).book() is not None:
                told = "digits"
            self.assertEqual(kind(machine), told)
            self.assertEqual(kind(least(machine)), told)
            self.assertEqual(block(machine) is None, told != "length")
            self.assertEqual(book(machine) is None, told == "length")
            seen[told] += 1
        self.assertGreater(min(seen.values()), 10)

    def test_same_for_the_least_machine(self):
        source = random.Random(56)
        for machine in support.drawn_machines(57, 120):
            self.assertEqual(kind(machine), kind(least(machine)))
            # Each state twice, and by each step either of the two.
            many = len(least(machine).table())
            if many <= 3:
                table = tuple(tuple(2 * state + source.randrange(2) for state in row)
                              for row in least(machine).table() for _ in range(2))
                accepts = tuple(2 * s + k for s in least(machine).accepts() for k in range(2))
                doubled = Machine(machine.letters(), table, accepts)
                self.assertEqual(least(doubled), least(machine))
                self.assertEqual(kind(doubled), kind(machine))

    def test_too_many(self):
        for machine in (EXCHANGES, HUNDRED_AND_ONE, counts(6, 6, 5), counts(5, 5, 5)):
            with self.assertRaises(TooMany) as caught:
                kind(machine)
            self.assertEqual(caught.exception.most, 100)
        self.assertEqual(kind(counts(5, 5, 4)), "fixed")


if __name__ == "__main__":
    unittest.main()
