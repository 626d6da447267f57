"""Point 9: lots."""

import random
import unittest

import support
from saidacross.deeds import deed, deeds
from saidacross.errors import NoLot, TooMany
from saidacross.lots import core, fulls, made
from saidacross.machines import Machine
from test_deeds import EXCHANGES, HUNDRED, HUNDRED_AND_ONE, counts

ORDER = Machine("ab", ((1, 2), (1, 3), (2, 2), (3, 3)), (1, 3))
EACH = (made, fulls, core)


class DefinitionTest(unittest.TestCase):
    def check(self, machine):
        plain = support.Plain(machine)
        for lot in support.lots(machine.letters()):
            self.assertEqual(made(machine, lot), plain.made(lot))
            self.assertEqual(fulls(machine, lot), plain.fulls(lot))
            self.assertEqual(core(machine, lot), plain.core(lot))

    def test_drawn(self):
        for machine in support.drawn_machines(41, 120, 40):
            self.check(machine)

    def test_each_number_of_letters_and_states(self):
        source = random.Random(42)
        for letters in ("a", "bz", "abc", "abcd"):
            for states in range(1, 7):
                machine = support.drawn_machine(source, letters, states)
                while support.Plain(machine).deeds(40) is None:
                    machine = support.drawn_machine(source, letters, states)
                self.check(machine)

    def test_every_machine_with_two_states(self):
        for machine in support.every_machine("ab", 2):
            self.check(machine)

    def test_100_deeds(self):
        plain = support.Plain(HUNDRED)
        self.assertEqual(made(HUNDRED, "ab"), [one for _, one in plain.deeds()])
        self.assertEqual(fulls(HUNDRED, "ab"), plain.fulls("ab"))
        self.assertEqual(core(HUNDRED, "ab"), plain.core("ab"))
        self.assertEqual(len(core(counts(5, 5, 4), "abc")), 100)

    def test_by_hand(self):
        self.assertEqual(made(ORDER, "b"), [(0, 1, 2), (2, 1, 2)])
        self.assertEqual(fulls(ORDER, "b"), [(2, 1, 2)])
        self.assertEqual(core(ORDER, "b"), [(2, 1, 2)])
        self.assertEqual(made(ORDER, "ab"), [(0, 1, 2), (1, 1, 2), (2, 1, 2)])
        self.assertEqual(fulls(ORDER, "ab"), [(1, 1, 2), (2, 1, 2)])
        self.assertEqual(core(ORDER, "ab"), [(1, 1, 2), (2, 1, 2)])
        still = Machine("ab", ((0, 1), (1, 0)), (0,))
        self.assertEqual(fulls(still, "a"), [(0, 1)])
        self.assertEqual(fulls(still, "ab"), [(0, 1), (1, 0)])

    def test_words_that_are_drawn(self):
        source = random.Random(43)
        for machine in support.drawn_machines(44, 60):
            for lot in support.lots(machine.letters()):
                word = support.drawn_word(source, lot, 12)
                self.assertIn(deed(machine, word), made(machine, lot))
                self.assertIn(deed(machine, word + lot), fulls(machine, lot))

    def test_order_is_that_of_deeds(self):
        # The first word of a deed that is made of b may well be one of a.
        source = random.Random(45)
        unlike = 0
        for machine in support.drawn_machines(46, 60):
            every = [one for _, one in deeds(machine)]
            for lot in support.lots(machine.letters()):
                for tell in EACH:
                    places = [every.index(one) for one in tell(machine, lot)]
                    self.assertEqual(places, sorted(set(places)))
                inside = made(machine, lot)
                words = [word for word, one in deeds(machine) if one in inside]
                unlike += any(set(word) - set(lot) for word in words)
        self.assertGreater(unlike, 20)


class FactsTest(unittest.TestCase):
    def test_facts_of_the_core(self):
        for machine in support.drawn_machines(47, 60, 50):
            plain = support.Plain(machine)
            for lot in support.lots(machine.letters()):
                every = made(machine, lot)
                inside = core(machine, lot)
                steady = [e for e in inside if plain.steady(e)]
                self.assertTrue(inside)
                self.assertTrue(steady)
                for one in inside:
                    for other in every:
                        self.assertIn(plain.then(one, other), inside)
                        self.assertIn(plain.then(other, one), inside)
                grouped = {d for e in steady for d in plain.group(lot, e)}
                self.assertEqual(grouped, set(inside))


class WrongTest(unittest.TestCase):
    def test_no_lot(self):
        bad = ["", "aa", "ba", "bac", "e", "ae", "abcde", "A", "a ", "abb", ["a"], ("a",), None,
               True, 0, {"a": 1}, "ca", "abcc"]
        odd = support.odd_values()
        machine = Machine("abc", ((1, 0, 1), (0, 1, 1)), (1,))
        for tell in EACH:
            for lot in bad + odd + ["d", "z"]:
                with self.assertRaises(NoLot):
                    tell(machine, lot)
            with self.assertRaises(NoLot):
                tell(Machine("bd", ((0, 0),), ()), "c")
            with self.assertRaises(NoLot):
                tell(Machine("bd", ((0, 0),), ()), "bcd")

    def test_no_lot_comes_ahead_of_too_many(self):
        for machine in (EXCHANGES, HUNDRED_AND_ONE):
            for tell in EACH:
                for lot in ("", "ba", "c", None, ["a"], "aa"):
                    with self.assertRaises(NoLot):
                        tell(machine, lot)

    def test_too_many(self):
        for machine in (EXCHANGES, HUNDRED_AND_ONE, counts(6, 6, 5)):
            for tell in EACH:
                for lot in ("a", "b", "ab"):
                    with self.assertRaises(TooMany) as caught:
                        tell(machine, lot)
                    self.assertEqual(caught.exception.most, 100)

    def test_lists_are_new(self):
        for tell in EACH:
            for lot in ("a", "b", "ab"):
                told = tell(ORDER, lot)
                keep = list(told)
                told.append((0, 0, 0))
                told[0] = None
                self.assertEqual(tell(ORDER, lot), keep)
                tell(ORDER, lot).clear()
                self.assertEqual(tell(ORDER, lot), keep)


if __name__ == "__main__":
    unittest.main()
