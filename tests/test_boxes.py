"""Point 13: the core as a box."""

import random
import unittest

import support
from saidacross.boxes import box, parted, worth
from saidacross.deeds import deed, done
from saidacross.errors import NoBook, NoLetter, NoLot, NoWord, TooMany
from saidacross.lots import core
from saidacross.machines import Machine
from test_blocks import FIRST, RING, SIGNS, THREE
from test_books import FIVE, STEPS
from test_deeds import EXCHANGES, HUNDRED, HUNDRED_AND_ONE, counts
from test_gaps import ENDS
from test_pieces import CUBE, with_books


class BoxTest(unittest.TestCase):
    def test_by_definition(self):
        widths = set()
        for machine, pages in with_books(221, 200, 60):
            plain = support.Plain(machine)
            for lot in pages:
                e = plain.deed(pages[lot][1])
                steady = plain.steady_core(lot)
                told = box(machine, lot)
                self.assertIsInstance(told, tuple)
                self.assertEqual(told, ([d for d in steady if plain.then(d, e) == d],
                                        plain.group(lot, e),
                                        [d for d in steady if plain.then(e, d) == d]))
                widths.add(tuple(min(2, len(side)) for side in told))
        self.assertGreaterEqual(len(widths), 5)

    def test_each_three_is_a_deed_of_the_core(self):
        for machine, pages in with_books(222, 150, 60) + [(ENDS, {"ab": 0, "abcd": 0})]:
            for lot in pages:
                lefts, sums, rights = box(machine, lot)
                threes = [done(machine, done(machine, left, total), right)
                          for left in lefts for total in sums for right in rights]
                self.assertEqual(len(set(threes)), len(threes))
                self.assertEqual(set(threes), set(core(machine, lot)))

    def test_by_hand(self):
        a, b = deed(FIRST, "a"), deed(FIRST, "b")
        self.assertEqual(box(FIRST, "ab"), ([a, b], [a], [a]))
        self.assertEqual(box(FIRST, "a"), ([a], [a], [a]))
        self.assertEqual(box(CUBE, "ab")[1], [deed(CUBE, word) for word in ("", "a", "aa")])
        self.assertEqual([len(side) for side in box(ENDS, "abcd")], [2, 20, 2])
        machine = Machine("a", ((0,),), ())
        self.assertEqual(box(machine, "a"), ([(0,)], [(0,)], [(0,)]))

    def test_lists_are_new(self):
        told = box(FIRST, "ab")
        for side in box(FIRST, "ab"):
            side.clear()
        self.assertEqual(box(FIRST, "ab"), told)
        lefts, sums, rights = box(FIRST, "a")
        lefts.append(0)
        self.assertEqual([sums, rights], [[deed(FIRST, "a")]] * 2)


class WorthTest(unittest.TestCase):
    def test_by_definition(self):
        for machine, pages in with_books(223, 90):
            for lot in pages:
                e = deed(machine, pages[lot][1])
                for letter in lot:
                    told = worth(machine, lot, letter)
                    self.assertEqual(told, done(machine, done(machine, e, deed(machine, letter)), e))
                    self.assertIn(told, box(machine, lot)[1])

    def test_no_letter(self):
        self.assertEqual(worth(STEPS, "ac", "c"), deed(STEPS, "aaacc"))
        for letter in support.odd_values() + ["b", "", "ac", "d", "A", ["a"]]:
            with self.assertRaises(NoLetter):
                worth(STEPS, "ac", letter)


class PartedTest(unittest.TestCase):
    def test_they_make_the_deed(self):
        source = random.Random(224)
        for machine, pages in with_books(225, 90):
            for lot in pages:
                lefts, sums, rights = box(machine, lot)
                inside = set(core(machine, lot))
                for _ in range(6):
                    letters = source.choice([lot, machine.letters()])
                    word = support.drawn_word(source, letters, 25)
                    if deed(machine, word) not in inside:
                        with self.assertRaises(NoWord):
                            parted(machine, lot, word)
                    else:
                        told = parted(machine, lot, word)
                        self.assertIsInstance(told, tuple)
                        left, total, right = told
                        self.assertEqual(done(machine, done(machine, left, total), right),
                                         deed(machine, word))
                        self.assertTrue(left in lefts and total in sums and right in rights)

    def test_sum_is_what_the_worths_make(self):
        source = random.Random(226)
        for machine, pages in with_books(227, 90):
            for lot in pages:
                word = pages[lot][1] + support.drawn_word(source, lot, 6)
                letters = list(word)
                source.shuffle(letters)
                total = deed(machine, pages[lot][1])
                for letter in letters:
                    total = done(machine, total, worth(machine, lot, letter))
                self.assertEqual(parted(machine, lot, word)[1], total)

    def test_by_hand(self):
        a, b = deed(FIRST, "a"), deed(FIRST, "b")
        self.assertEqual(parted(FIRST, "ab", "baa"), (b, a, a))
        self.assertEqual(parted(FIRST, "ab", "b"), (b, a, a))
        self.assertEqual(parted(CUBE, "b", "")[1], deed(CUBE, ""))
        # A word may have other letters: its deed counts.
        self.assertEqual(parted(CUBE, "b", "aaa"), parted(CUBE, "b", ""))

    def test_no_word(self):
        for word in support.odd_values() + ["", "aaaa", "b" * 9, "abc", ["aaaaa"], ("aaaaa",)]:
            with self.assertRaises(NoWord):
                parted(FIVE, "a", word)
        self.assertEqual(parted(FIVE, "a", "aaabaa")[1], deed(FIVE, "aaaaa"))


class WrongTest(unittest.TestCase):
    def test_order_of_errors(self):
        calls = [box, lambda m, lot: worth(m, lot, None), lambda m, lot: parted(m, lot, None),
                 lambda m, lot: worth(m, lot, "a"), lambda m, lot: parted(m, lot, "ab")]
        for call in calls:
            for lot in support.odd_values() + ["ba", "c", "aa"]:
                for machine in (FIRST, RING, EXCHANGES):
                    with self.assertRaises(NoLot):
                        call(machine, lot)
            for machine in (EXCHANGES, HUNDRED_AND_ONE, counts(6, 6, 5)):
                with self.assertRaises(TooMany) as caught:
                    call(machine, "ab")
                self.assertEqual(caught.exception.most, 100)
            for machine in (RING, SIGNS, THREE, HUNDRED):
                with self.assertRaises(NoBook):
                    call(machine, "ab")

    def test_just_a_hundred_deeds(self):
        machine = counts(5, 5, 4)
        self.assertEqual(box(machine, "abc")[1], core(machine, "abc"))
        self.assertEqual(worth(machine, "abc", "a"), deed(machine, "a"))
        self.assertEqual(parted(machine, "abc", "ab")[1], deed(machine, "ab"))


if __name__ == "__main__":
    unittest.main()
