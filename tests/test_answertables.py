"""Point 19: tables of answers and their ranks."""

import copy
import random
import unittest
from fractions import Fraction

import support
from saidacross.answertables import answers, rank
from saidacross.errors import NoDealing, NoTable, NoWritings
from saidacross.machines import Machine
from test_blocks import FIRST, RING
from test_deeds import EXCHANGES, counts

MOST = 10 ** 9


def plain_rank(table):
    """The rank by an elimination over fractions."""
    rows = [[Fraction(number) for number in row] for row in table]
    many = 0
    for at in range(len(table[0])):
        first = [k for k in range(many, len(rows)) if rows[k][at] != 0]
        if first:
            rows[many], rows[first[0]] = rows[first[0]], rows[many]
            for k in range(many + 1, len(rows)):
                share = rows[k][at] / rows[many][at]
                if share:
                    rows[k] = [one - share * other for one, other in zip(rows[k], rows[many])]
            many += 1
    return many


def woven(dealing, one, other):
    """The row in which A and B write these."""
    own = {"A": list(one), "B": list(other)}
    return "".join(own[hand].pop(0) for hand in dealing)


def plain_table(machine, dealing, ones, others):
    return [[int(support.plainly_says(machine, woven(dealing, one, other).replace(".", "")))
             for other in others] for one in ones]


class AnswersTest(unittest.TestCase):
    def drawn_writings(self, source, letters, many):
        return ["".join(source.choice(letters + ".") for _ in range(many))
                for _ in range(source.randint(0, 6))]

    def test_by_definition(self):
        source = random.Random(271)
        for _ in range(300):
            machine = support.drawn_machine(source)
            dealing = "".join(source.choice("AB") for _ in range(source.randint(1, 12)))
            ones = self.drawn_writings(source, machine.letters(), dealing.count("A"))
            others = self.drawn_writings(source, machine.letters(), dealing.count("B"))
            keep = (list(ones), list(others))
            self.assertEqual(answers(machine, dealing, ones, others),
                             plain_table(machine, dealing, ones, others))
            self.assertEqual((ones, others), keep)

    def test_edges(self):
        self.assertEqual(answers(FIRST, "AB", [], []), [])
        self.assertEqual(answers(FIRST, "AB", [], ["a"]), [])
        self.assertEqual(answers(FIRST, "AB", ["a", "."], []), [[], []])
        self.assertEqual(answers(FIRST, "AB", ["a", "a", "."], ["b", "b"]), [[1, 1], [1, 1], [0, 0]])
        # A hand of the two may have no place: it writes nothing.
        self.assertEqual(answers(FIRST, "A", ["a", "b", "."], ["", ""]), [[1, 1], [0, 0], [0, 0]])
        self.assertEqual(answers(FIRST, "BB", [""], ["ab", "ba", ".a", ".."]), [[1, 0, 1, 0]])
        self.assertEqual(answers(FIRST, "BAAB", ["ab", ".."], ["..", "ba", ".a"]), [[1, 0, 1], [0, 0, 1]])
        long = answers(RING, "AB" * 200, ["a" * 200, "." * 200], ["b" * 200, "." * 200])
        self.assertEqual(long, [[1, 0], [0, 1]])
        self.assertEqual(answers(EXCHANGES, "AB", ["a"], ["."]), [[0]])

    def test_numbers_and_new_lists(self):
        told = answers(FIRST, "AB", ["a", "a"], ["b", "."])
        self.assertEqual({type(number) for row in told for number in row}, {int})
        told[0][0] = 7
        self.assertEqual(told[1][0], 1)
        told.clear()
        self.assertEqual(answers(FIRST, "AB", ["a", "a"], ["b", "."]), [[1, 1], [1, 1]])

    def test_no_dealing(self):
        bad = ["", "C", "x", "ABx", "ABC", "AD", "E", "a", "AB ", ["A", "B"], ("A",), None, 0, True]
        for dealing in bad + [v for v in support.odd_values() if v != "A"]:
            with self.assertRaises(NoDealing):
                answers(FIRST, dealing, None, None)

    def test_no_writings(self):
        bad = [["a", ""], ["ab"], ["c"], ["x"], ["A"], ["-"], [None], [0], [["a"]], ("a",), "a", None,
               {"a": "a"}, {}, (), True, ["a", ("a",)]]
        odd = [v for v in support.odd_values() if v not in ([], ["a"])]
        for thing in bad + odd:
            with self.assertRaises(NoWritings):
                answers(FIRST, "AB", thing, ["a"])
            with self.assertRaises(NoWritings):
                answers(FIRST, "AB", ["a"], thing)
        for thing in ([""], ["a"], ["aaa"]):
            with self.assertRaises(NoWritings):
                answers(FIRST, "ABA", thing, ["a"])
            with self.assertRaises(NoWritings):
                answers(FIRST, "BAB", ["a"], thing)
        with self.assertRaises(NoWritings):
            answers(FIRST, "A", ["a"], ["a"])


class RankTest(unittest.TestCase):
    def test_by_fractions(self):
        source = random.Random(272)
        seen = set()
        for _ in range(1500):
            high, wide = source.randint(1, 7), source.randint(1, 7)
            most = source.choice([1, 3, MOST])
            table = [[source.choice([0, source.randint(-most, most)]) for _ in range(wide)]
                     for _ in range(high)]
            told = rank(table)
            self.assertEqual(told, plain_rank(table))
            self.assertEqual(rank([list(column) for column in zip(*table)]), told)
            seen.add((told, min(high, wide)))
        self.assertGreaterEqual(seen, {(0, 1), (1, 1), (2, 3), (3, 5), (4, 5), (5, 5), (7, 7)})

    def test_sums_of_multiples(self):
        source = random.Random(273)
        for _ in range(300):
            few, wide = source.randint(1, 4), source.randint(1, 9)
            rows = [[source.randint(-40, 40) for _ in range(wide)] for _ in range(few)]
            table = []
            for _ in range(source.randint(1, 9)):
                by = [source.randint(-9, 9) for _ in rows]
                table.append([sum(n * row[at] for n, row in zip(by, rows)) for at in range(wide)])
            self.assertEqual(rank(table), plain_rank(table))
            self.assertLessEqual(rank(table), few)

    def test_edges(self):
        for number in (1, -1, MOST, -MOST):
            self.assertEqual(rank([[number]]), 1)
        self.assertEqual(rank([[0]]), 0)
        self.assertEqual(rank([[0] * 128] * 128), 0)
        self.assertEqual(rank([[0, 0, 0]]), 0)
        self.assertEqual(rank([[0], [0], [5]]), 1)
        self.assertEqual(rank([[1, 2], [2, 4], [0, 0]]), 1)
        self.assertEqual(rank([[MOST, MOST - 1], [-MOST, 1 - MOST]]), 1)
        self.assertEqual(rank([[MOST, MOST - 1], [MOST - 1, MOST - 2]]), 2)
        # Over the remainders by small primes these have smaller ranks.
        self.assertEqual(rank([[1, 1, 0], [0, 1, 1], [1, 0, 1]]), 3)
        for prime in (3, 7, 65537, 999999937):
            self.assertEqual(rank([[prime, 0], [0, prime]]), 2)

    def test_great_tables(self):
        source = random.Random(274)
        steps = [[int(one <= other) for other in range(128)] for one in range(128)]
        self.assertEqual(rank(steps), 128)
        self.assertEqual(rank([[MOST * number for number in row] for row in steps[:100]]), 100)
        drawn = [[source.randint(0, 1) for _ in range(128)] for _ in range(90)]
        drawn += [[one + other for one, other in zip(row, drawn[0])] for row in drawn[1:39]]
        source.shuffle(drawn)
        self.assertEqual(len(drawn), 128)
        self.assertEqual(rank(drawn), 90)
        thin = [[source.choice([-MOST, MOST]) for _ in range(128)] for _ in range(3)]
        self.assertEqual(rank((thin * 43)[:128]), 3)
        self.assertEqual(rank([[number] for number in thin[0]]), 1)
        full = [[source.randint(-MOST, MOST) for _ in range(40)] for _ in range(128)]
        self.assertEqual(rank(full), 40)
        full = [[source.randint(-9, 9) * (MOST // 9) for _ in range(128)] for _ in range(40)]
        full.append([(one - other) // 2 for one, other in zip(full[0], full[1])])
        full[-1] = [one for one in full[3]]
        self.assertEqual(rank(full), 40)

    def test_table_stays_as_it_was(self):
        table = [[0, 2, 4], [1, 1, 1], [1, 3, 5]]
        keep = copy.deepcopy(table)
        self.assertEqual(rank(table), 2)
        self.assertEqual(table, keep)

    def test_no_table(self):
        bad = [[[]], [[1], []], [[], [1]], [[1, 2], [3]], [[1], [2, 3]], [(1, 2)], ([1, 2],), [1, 2],
               [[True]], [[0, False]], [[1, None]], [["1"]], [[MOST + 1]], [[0, -MOST - 1]],
               [[[1]]], [[0] * 129], [[0]] * 129, [[0] * 129] * 129, "ab", [["a", "b"]], {0: [1]},
               [[1], None], [[1], "a"], [{0: 1}]]
        for thing in bad + support.odd_values():
            with self.assertRaises(NoTable):
                rank(thing)

    def test_rank_of_answers(self):
        # A's counts and B's counts of a machine that counts make a table of full rank.
        words = ["a" * many + "." * (5 - many) for many in range(6)]
        table = answers(counts(6), "A" * 5 + "B" * 5, words, words)
        self.assertEqual(rank(table), 6)
        self.assertEqual(plain_rank(table), 6)
        self.assertEqual(rank(answers(Machine("a", ((0,),), ()), "AB", ["a"], ["a", "."])), 0)


if __name__ == "__main__":
    unittest.main()
