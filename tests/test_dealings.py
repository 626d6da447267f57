"""Point 15: dealings, rows and what hands see."""

import random
import unittest

import support
from saidacross.dealings import crossed, seen, stretches
from saidacross.errors import NoDealing, NoHand, NoRow, NoRows

NO_DEALINGS = ["", "E", "x", "ABx", "ABE", "a", "AB ", "A.B", ["A", "B"], ("A",), None, 0, True, {"A": 1}]


def drawn_dealing(source, longest, hands="ABCD"):
    """A dealing of some of the hands, with longer and shorter stretches."""
    own = source.sample(hands, source.randint(1, len(hands)))
    most = source.choice([1, 2, 15])
    dealing = ""
    while len(dealing) < longest:
        dealing += source.choice(own) * source.randint(1, most)
    return dealing[:source.randint(1, longest)]


def drawn_row(source, letters, dealing):
    signs = letters + "." * source.choice([0, 1, 4])
    return "".join(source.choice(signs) for _ in dealing)


def hands_of(dealing):
    return "ABCD"[:max(2, "ABCD".index(max(dealing)) + 1)]


class SeenTest(unittest.TestCase):
    def test_by_definition(self):
        source = random.Random(231)
        for _ in range(300):
            dealing = drawn_dealing(source, 40)
            row = drawn_row(source, "abxyz", dealing)
            for hand in hands_of(dealing):
                own = "".join(row[at] for at in range(len(row)) if dealing[at] == hand)
                self.assertEqual(seen(dealing, row, hand), own)

    def test_edges(self):
        self.assertEqual(seen("A", "z", "A"), "z")
        self.assertEqual(seen("A", "z", "B"), "")
        self.assertEqual([seen("D", ".", hand) for hand in "ABCD"], ["", "", "", "."])
        self.assertEqual(seen("ABAB", "a.bz", "B"), ".z")
        self.assertEqual(seen("AB" * 200, "a." * 200, "B"), "." * 200)
        self.assertEqual(seen("AB" * 2000, "ab" * 2000, "B"), "b" * 2000)

    def test_wrong(self):
        for dealing in NO_DEALINGS + [v for v in support.odd_values() if v != "A"]:
            with self.assertRaises(NoDealing):
                seen(dealing, None, None)
        rows = ["", "a", "abc", "aB", "a-", "a ", None, ["a", "b"], ("a", "b"), 7, True]
        for row in rows + support.odd_values():
            with self.assertRaises(NoRow):
                seen("AB", row, "E")
        for hand in ["", "C", "D", "E", "a", "Bx", "x", "AB", None, 0, True, ["A"], ("A",)]:
            with self.assertRaises(NoHand):
                seen("AB", "a.", hand)
        for hand in support.odd_values():
            if hand != "A":
                with self.assertRaises(NoHand):
                    seen("AB", "a.", hand)
        with self.assertRaises(NoHand):
            seen("AAC", "...", "D")
        with self.assertRaises(NoHand):
            seen("A", ".", "C")


class CrossedTest(unittest.TestCase):
    def test_by_definition(self):
        source = random.Random(232)
        for _ in range(300):
            dealing = drawn_dealing(source, 40)
            hands = hands_of(dealing)
            rows = [drawn_row(source, "abcz", dealing) for _ in hands]
            keep = list(rows)
            told = crossed(dealing, rows)
            self.assertEqual(rows, keep)
            self.assertEqual(told, "".join(rows["ABCD".index(hand)][at]
                                           for at, hand in enumerate(dealing)))
            for hand, row in zip(hands, rows):
                self.assertEqual(seen(dealing, told, hand), seen(dealing, row, hand))

    def test_by_hand(self):
        self.assertEqual(crossed("ABBA", ["abcd", "wxyz"]), "axyd")
        self.assertEqual(crossed("B", ["a", "."]), ".")
        self.assertEqual(crossed("AC", ["ab", "cd", "ef"]), "af")

    def test_wrong(self):
        for dealing in NO_DEALINGS + [v for v in support.odd_values() if v != "A"]:
            with self.assertRaises(NoDealing):
                crossed(dealing, None)
        rows = [[], ["ab"], ["ab", "ab", "ab"], ("ab", "ab"), ["ab", "a"], ["ab", "aB"], ["", ""],
                ["ab", None], [["a", "b"], "ab"], "ab", None, {"ab": "ab"}, [1, 2], ["abc", "ab"]]
        for thing in rows + support.odd_values():
            with self.assertRaises(NoRows):
                crossed("AB", thing)
        for thing in (["a"], ["a", "b", "c"]):
            with self.assertRaises(NoRows):
                crossed("A", thing)
            with self.assertRaises(NoRows):
                crossed("D", thing)


class StretchesTest(unittest.TestCase):
    def test_by_definition(self):
        source = random.Random(233)
        for _ in range(300):
            dealing = drawn_dealing(source, 40)
            told = stretches(dealing)
            self.assertIsInstance(told, list)
            self.assertEqual("".join(hand * many for hand, many in told), dealing)
            self.assertTrue(all(many > 0 for _, many in told))
            self.assertTrue(all(one[0] != other[0] for one, other in zip(told, told[1:])))

    def test_by_hand(self):
        self.assertEqual(stretches("A"), [("A", 1)])
        self.assertEqual(stretches("DDDD"), [("D", 4)])
        self.assertEqual(stretches("AABAAAC"), [("A", 2), ("B", 1), ("A", 3), ("C", 1)])
        self.assertEqual(stretches("AB" * 200), [("A", 1), ("B", 1)] * 200)
        self.assertEqual(stretches("B" * 400), [("B", 400)])

    def test_lists_are_new(self):
        stretches("AAB").clear()
        self.assertEqual(stretches("AAB"), [("A", 2), ("B", 1)])

    def test_wrong(self):
        for dealing in NO_DEALINGS + [v for v in support.odd_values() if v != "A"]:
            with self.assertRaises(NoDealing):
                stretches(dealing)


if __name__ == "__main__":
    unittest.main()
