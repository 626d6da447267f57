"""Point 11: blocks."""

import random
import unittest

import support
from saidacross.blocks import block, block_fault
from saidacross.books import book
from saidacross.errors import TooMany
from saidacross.machines import Machine
from test_deeds import EXCHANGES, HUNDRED, HUNDRED_AND_ONE, counts

RING = Machine("ab", ((1, 2), (2, 0), (2, 2)), (0,))
# All ways to exchange three states.
THREE = Machine("ab", ((1, 1), (2, 0), (0, 2)), (0,))
# Two letters, each of which leads to two states and changes signs or not.
SIGNS = Machine("ab", ((0, 2), (1, 3), (0, 3), (1, 2)), (0,))
FIRST = Machine("ab", ((1, 2), (1, 1), (2, 2)), (1,))


class BlockTest(unittest.TestCase):
    def check(self, machine):
        told = block(machine)
        self.assertEqual(block(machine), told)
        self.assertNotEqual(told is None, book(machine) is None)
        if told is not None:
            plain = support.Plain(machine)
            self.assertIsInstance(told, tuple)
            self.assertEqual(len(told), 5)
            for word in told:
                self.assertIsInstance(word, str)
                self.assertLessEqual(set(word), set(machine.letters()))
            self.assertTrue(plain.is_block([plain.deed(word) for word in told]))
            self.assertIsNone(block_fault(machine, told))
        return told

    def test_three_reasons(self):
        for machine in (RING, THREE, SIGNS):
            self.assertIsNotNone(self.check(machine))
            self.assertTrue(support.Plain(machine).has_block())

    def test_reasons_are_not_the_same(self):
        told = [{fault[0] for fault in self.reasons(machine)} for machine in (THREE, SIGNS)]
        self.assertEqual(told, [{"sums"}, {"ends"}])

    def reasons(self, machine):
        plain = support.Plain(machine)
        found = []
        for lot in support.lots(machine.letters()):
            word = [w for w, one in plain.full_words(lot) if one in plain.steady_core(lot)][0]
            fault = plain.page_fault(lot, 100, word)
            if fault is not None:
                found.append(fault)
        return found

    def test_no_block(self):
        for machine in (FIRST, Machine("a", ((1,), (2,), (0,)), (0,)), Machine("ab", ((0, 0),), ())):
            self.assertIsNone(self.check(machine))
            self.assertFalse(support.Plain(machine).has_block())

    def test_all_fives_are_tried(self):
        seen = {True: 0, False: 0}
        for machine in support.drawn_machines(61, 200, 12):
            there = support.Plain(machine).has_block()
            self.assertEqual(self.check(machine) is not None, there)
            seen[there] += 1
        self.assertGreater(min(seen.values()), 5)

    def test_all_fives_are_tried_where_states_are_exchanged_or_have_signs(self):
        source = random.Random(65)
        seen = {}
        for at in range(160):
            machine = support.signed(source) if at % 4 else support.exchanging(source)
            if support.Plain(machine).deeds(16) is not None:
                there = support.Plain(machine).has_block()
                self.assertEqual(self.check(machine) is not None, there)
                seen[(at % 4 > 0, there)] = True
        self.assertEqual(len(seen), 4)

    def test_drawn(self):
        seen = {True: 0, False: 0}
        for machine in support.drawn_machines(62, 250):
            seen[self.check(machine) is not None] += 1
        self.assertGreater(min(seen.values()), 40)

    def test_every_machine_with_two_states(self):
        for machine in support.every_machine("ab", 2):
            self.check(machine)

    def test_exactly_100_deeds_and_more(self):
        self.check(HUNDRED)
        self.check(counts(5, 5, 4))
        for machine in (EXCHANGES, HUNDRED_AND_ONE, counts(6, 6, 5)):
            with self.assertRaises(TooMany) as caught:
                block(machine)
            self.assertEqual(caught.exception.most, 100)


class BlockFaultTest(unittest.TestCase):
    def plain_fault(self, machine, five):
        plain = support.Plain(machine)
        e, a, b, c, d = five
        if plain.deed(e + e) != plain.deed(e):
            return ("steady",)
        if plain.deed(e + a + c + e) != plain.deed(e):
            return ("one",)
        if plain.deed(e + b + d + e) != plain.deed(e):
            return ("other",)
        return ("both",) if plain.deed(e + a + b + c + d + e) == plain.deed(e) else None

    def test_form(self):
        bad = [("", "", "", ""), ("", "", "", "", "", ""), ["", "", "", "", ""], "aaaaa", (),
               ("c", "", "", "", ""), ("", "c", "", "", ""), ("", "", "c", "", ""),
               ("", "", "", "c", ""), ("", "", "", "", "c"), ("", "", "", "", None),
               (None, "", "", "", ""), ("", 0, "", "", ""), ("", "", True, "", ""),
               ("", "", "", ["a"], ""), ("", "", ("a",), "", ""), ("", "", "", "", "a."),
               (("", "", "", "", ""),), ("ab", "a", "a", "b", "B")]
        for machine in (RING, FIRST, EXCHANGES):
            for thing in bad + support.odd_values():
                self.assertEqual(block_fault(machine, thing), ("form",))

    def test_each_condition(self):
        good = ("ab", "a", "a", "b", "b")
        self.assertIsNone(block_fault(RING, good))
        self.assertEqual(block_fault(RING, ("a", "a", "a", "b", "b")), ("steady",))
        self.assertEqual(block_fault(RING, ("ab", "b", "a", "b", "b")), ("one",))
        self.assertEqual(block_fault(RING, ("ab", "a", "b", "b", "b")), ("other",))
        self.assertEqual(block_fault(RING, ("ab", "a", "", "b", "")), ("both",))
        self.assertEqual(block_fault(RING, ("", "", "", "", "")), ("both",))
        self.assertIsNone(block_fault(THREE, ("", "a", "b", "aa", "b")))
        self.assertEqual(block_fault(THREE, ("", "a", "a", "aa", "aa")), ("both",))

    def test_first_condition_is_told(self):
        self.assertEqual(block_fault(RING, ("a", "", "", "", "")), ("steady",))
        self.assertEqual(block_fault(RING, ("ab", "b", "b", "", "")), ("one",))
        self.assertEqual(block_fault(RING, ("", "", "a", "", "a")), ("other",))

    def test_by_definition(self):
        source = random.Random(63)
        seen = {}
        machines = support.drawn_machines(64, 200) + [RING, THREE, SIGNS] * 10
        for machine in machines:
            words = [word for word, _ in support.Plain(machine).deeds()]
            found = block(machine) or ("",) * 5
            for _ in range(12):
                five = [source.choice(words) if source.random() < 0.3 else w for w in found]
                if source.random() < 0.2:
                    five = [found[at] for at in (0, 1, 1, 3, 3)]
                if source.random() < 0.2:
                    five[4] = ""
                    five[2] = ""
                told = block_fault(machine, tuple(five))
                self.assertEqual(told, self.plain_fault(machine, five))
                seen[told] = seen.get(told, 0) + 1
        self.assertEqual(set(seen), {None, ("steady",), ("one",), ("other",), ("both",)})
        self.assertGreater(min(seen.values()), 40)

    def test_more_than_100_deeds_are_no_hindrance(self):
        for word in ("a", "ab"):
            self.assertEqual(block_fault(EXCHANGES, (word, "", "", "", "")), ("steady",))
        self.assertEqual(block_fault(EXCHANGES, ("", "a", "", "", "")), ("one",))
        self.assertEqual(block_fault(EXCHANGES, ("", "a", "b", "aaaa", "")), ("other",))
        self.assertEqual(block_fault(EXCHANGES, ("", "a", "aa", "aaaa", "aaa")), ("both",))
        self.assertIsNone(block_fault(EXCHANGES, ("", "a", "b", "aaaa", "b")))

    def test_long_words(self):
        self.assertIsNone(block_fault(RING, ("ab" * 100, "ab" * 99 + "a", "a", "b", "b" + "ab" * 99)))


if __name__ == "__main__":
    unittest.main()
