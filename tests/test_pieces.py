"""Point 13: pieces, the modulus, and what is made between two words."""

import random
import unittest

import support
from saidacross.books import book
from saidacross.deeds import deed
from saidacross.errors import NoBook, NoCounts, NoLot, NoWord, TooMany
from saidacross.machines import Machine
from saidacross.pieces import between, modulus, pieces, pieces_back
from saidacross.sayings import machine_of
from test_blocks import FIRST, RING, SIGNS, THREE
from test_books import FIVE, STEPS
from test_deeds import EXCHANGES, HUNDRED, HUNDRED_AND_ONE, counts
from test_gaps import ENDS

CUBE = Machine("ab", ((1, 0), (2, 1), (0, 2)), (0,))


def plain_pieces(lot, word):
    """The shortest full parts from the left, and the rest."""
    for end in range(len(word) + 1):
        if set(word[:end]) == set(lot):
            found, rest = plain_pieces(lot, word[end:])
            return [word[:end]] + found, rest
    return [], word


def with_books(seed, many, most=100):
    """Drawn machines that have a book, with their books."""
    found = []
    for machine in support.drawn_machines(seed, many, most):
        pages = book(machine)
        if pages is not None:
            found.append((machine, pages))
    return found


def deep_word(source, lot, depth):
    """A word of the lot with at least so many full pieces."""
    word = ""
    for _ in range(depth):
        piece = list(lot + support.drawn_word(source, lot, 2))
        source.shuffle(piece)
        word += "".join(piece)
    return word


class PiecesTest(unittest.TestCase):
    def test_by_definition(self):
        source = random.Random(211)
        for _ in range(600):
            lot = "".join(sorted(source.sample("abcdxyz", source.randint(1, 4))))
            word = support.drawn_word(source, lot, 30)
            told = pieces(lot, word)
            self.assertEqual(told, plain_pieces(lot, word))
            found, rest = plain_pieces(lot, word[::-1])
            self.assertEqual(pieces_back(lot, word),
                             (rest[::-1], [piece[::-1] for piece in found[::-1]]))
            self.assertEqual("".join(told[0]) + told[1], word)
            self.assertEqual(len(told[0]), len(pieces_back(lot, word)[1]))

    def test_by_hand(self):
        self.assertEqual(pieces("ab", "aabbab"), (["aab", "ba"], "b"))
        self.assertEqual(pieces_back("ab", "aabbab"), ("a", ["abb", "ab"]))
        self.assertEqual(pieces_back("ab", "aababb"), ("a", ["ab", "abb"]))
        self.assertEqual(pieces("ab", "ab"), (["ab"], ""))
        self.assertEqual(pieces_back("abc", "ccbab"), ("c", ["cbab"]))
        self.assertEqual(pieces("abc", "aabb"), ([], "aabb"))

    def test_edges(self):
        for lot in ("a", "z", "ab", "abcdefghijklmnopqrstuvwxyz"):
            self.assertEqual(pieces(lot, ""), ([], ""))
            self.assertEqual(pieces_back(lot, ""), ("", []))
            self.assertEqual(pieces(lot, lot), ([lot], ""))
            self.assertEqual(pieces_back(lot, lot), ("", [lot]))
        self.assertEqual(pieces("q", "qqq"), (["q", "q", "q"], ""))
        self.assertEqual(pieces_back("q", "qqq"), ("", ["q", "q", "q"]))
        self.assertEqual(len(pieces("ab", "ab" * 100)[0]), 100)
        self.assertEqual(len(pieces("ab", "ab" * 3000)[0]), 3000)

    def test_wrong(self):
        odd = support.odd_values()
        bad = ["", "aa", "ba", "A", "a.", "aB", "abb", "-", " ", ["a"], ("a",), None, True, 0]
        for tell in (pieces, pieces_back):
            for lot in bad:
                for word in ("", "a", None, "?"):
                    with self.assertRaises(NoLot):
                        tell(lot, word)
            for lot in odd:
                if lot != "z":
                    with self.assertRaises(NoLot):
                        tell(lot, "z")
            for word in odd + ["abd", "abC", ["a"], "ab "]:
                with self.assertRaises(NoWord):
                    tell("abc", word)

    def test_lists_are_new(self):
        for tell, at in ((pieces, 0), (pieces_back, 1)):
            tell("ab", "abab")[at].clear()
            self.assertEqual(tell("ab", "abab")[at], ["ab", "ab"])


class ModulusTest(unittest.TestCase):
    def plain(self, machine, lot):
        plain = support.Plain(machine)
        groups = [plain.group(lot, e) for e in plain.steady_core(lot)]
        many = 1
        while not all(plain.steady(plain.then(*[one] * many)) for row in groups for one in row):
            many += 1
        return many

    def test_by_definition(self):
        seen = set()
        for machine, pages in with_books(212, 200, 60):
            for lot in pages:
                told = modulus(machine, lot)
                self.assertEqual(told, self.plain(machine, lot))
                seen.add(told)
        self.assertGreaterEqual(len(seen), 4)

    def test_by_hand(self):
        self.assertEqual([modulus(CUBE, lot) for lot in ("a", "b", "ab")], [3, 1, 3])
        self.assertEqual([modulus(FIRST, lot) for lot in ("a", "b", "ab")], [1, 1, 1])
        machine = counts(5, 5, 4)
        self.assertEqual([modulus(machine, lot) for lot in ("a", "b", "c", "ab", "bc", "abc", "d")],
                         [5, 5, 4, 5, 20, 20, 1])
        self.assertEqual([modulus(ENDS, lot) for lot in ("a", "ab", "c", "d", "acd", "abcd")],
                         [1, 1, 5, 4, 20, 20])
        six = machine_of("ab", ("and", ("count", "a", 6, 1), ("count", "b", 4, 2)))
        self.assertEqual(modulus(six, "ab"), 12)

    def test_wrong(self):
        for lot in support.odd_values() + ["ba", "c", "abc", "aa"]:
            for machine in (FIRST, RING, EXCHANGES):
                with self.assertRaises(NoLot):
                    modulus(machine, lot)
        for machine in (EXCHANGES, HUNDRED_AND_ONE, counts(6, 6, 5)):
            with self.assertRaises(TooMany) as caught:
                modulus(machine, "a")
            self.assertEqual(caught.exception.most, 100)
        for machine in (RING, SIGNS, THREE, HUNDRED):
            for lot in ("a", "b", "ab"):
                with self.assertRaises(NoBook):
                    modulus(machine, lot)


class BetweenTest(unittest.TestCase):
    def test_words_that_are_written_out(self):
        source = random.Random(213)
        for machine, pages in with_books(214, 120):
            for lot in pages:
                depth = pages[lot][0]
                left, right = (deep_word(source, lot, depth) for _ in range(2))
                counted = tuple(source.choice([0, 1, 2, 5]) for _ in lot)
                told = between(machine, lot, left, counted, right)
                self.assertIsInstance(told, tuple)
                for _ in range(3):
                    middle = [x for x, many in zip(lot, counted) for _ in range(many)]
                    source.shuffle(middle)
                    self.assertEqual(told, deed(machine, left + "".join(middle) + right))

    def test_counts_with_the_same_rest(self):
        source = random.Random(215)
        for machine, pages in with_books(216, 120):
            for lot in pages:
                many = modulus(machine, lot)
                left, right = (deep_word(source, lot, pages[lot][0]) for _ in range(2))
                counted = [source.randint(0, 9) for _ in lot]
                told = between(machine, lot, left, tuple(counted), right)
                more = tuple(n + many * source.choice([0, 1, 7, 10 ** 25]) for n in counted)
                self.assertEqual(between(machine, lot, left, more, right), told)
                less = tuple(n % many for n in counted)
                self.assertEqual(between(machine, lot, left, less, right), told)

    def test_modulus_is_the_least(self):
        # By one less some counts give another deed, unless the modulus is 1.
        for machine, pages in with_books(217, 100, 60):
            for lot in pages:
                many = modulus(machine, lot)
                word = lot * pages[lot][0]
                for less in range(1, many):
                    zero = between(machine, lot, word, (0,) * len(lot), word)
                    some = [between(machine, lot, word, tuple(less * (x == y) for y in lot), word)
                            for x in lot]
                    self.assertTrue(any(one != zero for one in some))

    def test_by_hand(self):
        self.assertEqual(between(CUBE, "a", "a", (10 ** 30,), "a"), deed(CUBE, "aaa"))
        self.assertEqual(between(CUBE, "a", "a", (10 ** 30 - 1,), "a"), deed(CUBE, "aa"))
        self.assertEqual(between(FIRST, "ab", "ba", (0, 10 ** 30), "ab"), deed(FIRST, "b"))
        self.assertEqual(between(FIVE, "a", "aaaaa", (0,), "aaaaa"), deed(FIVE, "aaaaa"))
        machine = counts(5, 5, 4)
        self.assertEqual(between(machine, "abc", "abc", (10 ** 30,) * 3, "cba"),
                         deed(machine, "aabbcc"))

    def test_wrong(self):
        good = (STEPS, "ac", "acacac", (1, 2), "caacac")
        self.assertEqual(between(*good), deed(STEPS, "acacac" + "acc" + "caacac"))
        words = ["", "aaaccc", "acac", "acaca", "acacab", "abcabcabc", None, ["acacac"], 7, True]
        tuples = [(), (1,), (1, 2, 3), (1, -1), (10 ** 30 + 1, 0), (True, 1), (1, False), [1, 2],
                  None, "12", (None, 1), ("1", "2"), {0: 1, 1: 2}, 3]
        for lot in support.odd_values() + ["ca", "acd"]:
            for machine in (STEPS, RING, EXCHANGES):
                with self.assertRaises(NoLot):
                    between(machine, lot, None, None, None)
        for left in words + support.odd_values():
            with self.assertRaises(NoWord):
                between(STEPS, "ac", left, None, "")
        for counted in tuples + support.odd_values():
            with self.assertRaises(NoCounts):
                between(STEPS, "ac", "acacac", counted, None)
        for right in words + support.odd_values():
            with self.assertRaises(NoWord):
                between(STEPS, "ac", "acacac", (0, 10 ** 30), right)

    def test_too_many_and_no_book_come_ahead(self):
        for machine in (EXCHANGES, HUNDRED_AND_ONE):
            with self.assertRaises(TooMany) as caught:
                between(machine, "ab", None, None, None)
            self.assertEqual(caught.exception.most, 100)
        for machine in (RING, SIGNS, THREE):
            for rest in ((None, None, None), ("ab" * 9, (0, 0), "ab" * 9)):
                with self.assertRaises(NoBook):
                    between(machine, "ab", *rest)

    def test_as_many_pieces_as_the_depth(self):
        for depth in range(1, 7):
            for left, right in (("a" * depth, "aaaaaa"), ("aaaaaa", "a" * depth)):
                if depth < 5:
                    with self.assertRaises(NoWord):
                        between(FIVE, "a", left, (0,), right)
                else:
                    self.assertEqual(between(FIVE, "a", left, (0,), right), deed(FIVE, "aaaaa"))


if __name__ == "__main__":
    unittest.main()
