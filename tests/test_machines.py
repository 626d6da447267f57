"""Point 6: what is a machine, and when two are equal."""

import random
import unittest

import support
from saidacross.errors import NoMachine, SaidError
from saidacross.machines import Machine, least
from saidacross.sayings import machine_of

GOOD = ("ab", ((1, 2), (1, 1), (2, 2)), (1,))
BAD_LETTERS = [
    "", "abcde", "ba", "aa", "abb", "abca", "A", "aB", "a1", "a b", "a.", "`", "{", "a{",
    ["a", "b"], ("a", "b"), ("ab",), {"a": 1, "b": 1}, None, True, False, 0, 2, "ab\n", "abc{",
]
BAD_TABLES = [
    (), [], None, True, 0, 3, "", "ab", {}, {0: (0, 0)},
    [(1, 2), (1, 1), (2, 2)],
    ([1, 2], (1, 1), (2, 2)), ((1, 2), (1, 1), [2, 2]), ((1, 2), "11", (2, 2)), ((1, 2), None),
    ((1,), (1, 1), (2, 2)), ((1, 2), (1, 1), (2, 2, 2)), ((1, 2), (1, 1), ()), ((), (), ()), ((),),
    ((-1, 2), (1, 1), (2, 2)), ((1, 2), (1, 3), (2, 2)), ((1, 2), (1, 1), (2, -1)), ((1, 0),),
    ((0, 1),), ((True, 2), (1, 1), (2, 2)), ((1, 2), (1, 1), (2, False)), ((0, None),),
    ((0, "0"),), ((0, (0,)),), ((0, [0]),), ((0, 0),) * 7, ((0, 10 ** 40),), (0, 0), ((0, 0), 0),
]
BAD_ACCEPTS = [
    [], [1], None, True, 1, "", "1", {}, {1: 1}, (3,), (-1,), (0, 3), (-1, 0), (1, 1), (1, 0),
    (0, 2, 1), (0, 0), (True,), (0, True), (False,), (False, 1), (None,), ("1",), ((1,),), ([1],),
    (0, 1, 2, 3), (10 ** 40,), (0, 1, 1),
]


class ConstructionTest(unittest.TestCase):
    def part(self, *parts):
        with self.assertRaises(NoMachine) as caught:
            Machine(*parts)
        return caught.exception.part

    def test_parts_are_told(self):
        source = random.Random(1)
        for letters in ("a", "z", "az", "mno", "abcd", "wxyz"):
            for states in range(1, 7):
                table = tuple(tuple(source.randrange(states) for _ in letters)
                              for _ in range(states))
                for accepts in ((), (0,), (states - 1,), tuple(range(states))):
                    machine = Machine(letters, table, accepts)
                    self.assertEqual(machine.letters(), letters)
                    self.assertEqual(machine.table(), table)
                    self.assertEqual(machine.accepts(), accepts)

    def test_bad_letters(self):
        for letters in BAD_LETTERS + [v for v in support.odd_values() if v != "z"]:
            self.assertEqual(self.part(letters, *GOOD[1:]), "letters")

    def test_bad_table(self):
        for table in BAD_TABLES + support.odd_values():
            self.assertEqual(self.part(GOOD[0], table, GOOD[2]), "table")

    def test_width_of_the_table(self):
        for letters, width in (("a", 2), ("abc", 2), ("abcd", 3), ("ab", 1)):
            self.assertEqual(self.part(letters, ((0,) * width,), ()), "table")

    def test_bad_accepts(self):
        odd = [value for value in support.odd_values() if value not in ((), (0,))]
        for accepts in BAD_ACCEPTS + odd:
            self.assertEqual(self.part(GOOD[0], GOOD[1], accepts), "accepts")
        self.assertEqual(self.part("a", ((0,),), (1,)), "accepts")
        self.assertEqual(self.part("a", ((0,),) * 6, (6,)), "accepts")

    def test_first_wrong_part_is_told(self):
        for letters in ("ba", None, ["a"], "", 3):
            self.assertEqual(self.part(letters, [], []), "letters")
            self.assertEqual(self.part(letters, GOOD[1], []), "letters")
            self.assertEqual(self.part(letters, None, GOOD[2]), "letters")
        for table in ((), [], None, ((0, 3),), ((0, True),)):
            self.assertEqual(self.part("ab", table, []), "table")
            self.assertEqual(self.part("ab", table, (9,)), "table")

    def test_it_is_a_said_error(self):
        with self.assertRaises(SaidError):
            Machine("", (), ())


class EqualTest(unittest.TestCase):
    def test_equal_parts(self):
        self.assertTrue(Machine(*GOOD) == Machine(*GOOD))
        self.assertFalse(Machine(*GOOD) != Machine(*GOOD))
        self.assertIs(Machine(*GOOD) == Machine(*GOOD), True)

    def test_unlike_parts(self):
        one = Machine(*GOOD)
        others = [
            Machine("ac", GOOD[1], GOOD[2]),
            Machine("ab", ((1, 2), (1, 1), (2, 1)), GOOD[2]),
            Machine("ab", GOOD[1] + ((0, 0),), GOOD[2]),
            Machine("ab", GOOD[1], ()),
            Machine("ab", GOOD[1], (1, 2)),
        ]
        for other in others:
            self.assertIs(one == other, False)
            self.assertIs(other == one, False)
            self.assertTrue(one != other)

    def test_other_values(self):
        one = Machine(*GOOD)
        for other in support.odd_values() + [GOOD, list(GOOD), "ab", object(), Machine]:
            self.assertIs(one == other, False)
            self.assertTrue(one != other)
            self.assertIs(other == one, False)

    def test_same_answers_are_not_enough(self):
        one = Machine("ab", ((1, 2), (1, 3), (2, 2), (3, 3)), (1, 3))
        self.assertFalse(one == least(one))
        self.assertTrue(least(one) == Machine(*GOOD))

    def test_machines_that_were_returned(self):
        count = ("and", ("count", "a", 3, 0), ("count", "b", 4, 1))
        self.assertTrue(machine_of("ab", count) == machine_of("ab", count))
        self.assertEqual(len(machine_of("ab", count).table()), 12)
        other = ("and", ("count", "a", 3, 0), ("count", "b", 4, 2))
        self.assertFalse(machine_of("ab", count) == machine_of("ab", other))


if __name__ == "__main__":
    unittest.main()
