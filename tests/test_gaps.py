"""Point 12: gaps."""

import random
import unittest

import support
from saidacross.blocks import block
from saidacross.books import book
from saidacross.errors import TooMany
from saidacross.gaps import gap
from saidacross.machines import Machine
from saidacross.sayings import machine_of
from test_blocks import FIRST, RING, SIGNS, THREE
from test_deeds import EXCHANGES, HUNDRED, HUNDRED_AND_ONE, counts

# Two deeds first and last, and counts of the others: it has a book, and just 100 deeds.
ENDS = machine_of("abcd", ("and", ("and", ("cut", "a", ("only", "cd"), ("only", "abcd")),
                                   ("cutlast", "b", ("only", "abcd"), ("only", "cd"))),
                           ("and", ("count", "c", 5, 0), ("count", "d", 4, 0))))


def plain_gap(machine):
    """The gap by its definition."""
    plain = support.Plain(machine)
    for lot in support.lots(machine.letters()):
        if plain.page(lot) is None:
            core = set(plain.core(lot))
            for word, deed in plain.full_words(lot):
                if plain.steady(deed) and deed not in core:
                    return ("depth", lot, word)
            inside = [deed for _, deed in plain.full_words(lot) if deed in plain.steady_core(lot)]
            return plain.ends_fault(lot) or plain.sums_fault(lot, inside[0])
    return None


class GapTest(unittest.TestCase):
    def test_by_definition(self):
        seen = {}
        for machine in support.drawn_machines(201, 180, 30):
            told = gap(machine)
            self.assertEqual(told, plain_gap(machine))
            name = None if told is None else told[0]
            seen[name] = seen.get(name, 0) + 1
        self.assertGreaterEqual(set(seen), {None, "depth", "sums"})

    def test_by_definition_where_states_are_exchanged_or_have_signs(self):
        source = random.Random(202)
        seen = {}
        for at in range(90):
            machine = support.signed(source) if at % 3 else support.exchanging(source)
            if support.Plain(machine).deeds(50) is not None:
                told = gap(machine)
                self.assertEqual(told, plain_gap(machine))
                seen[told and told[0]] = True
        self.assertGreaterEqual(set(seen), {None, "ends", "sums"})

    def test_there_is_a_gap_just_if_there_is_no_book(self):
        for machine in support.drawn_machines(203, 150):
            told = gap(machine)
            self.assertEqual(told is None, book(machine) is not None)
            self.assertEqual(told is None, block(machine) is None)
            self.assertEqual(gap(machine), told)
        for states in (1, 2, 3):
            for machine in support.every_machine("ab", states):
                self.assertEqual(gap(machine) is None, book(machine) is not None)

    def test_what_it_tells_is_so(self):
        for machine in support.drawn_machines(204, 200, 60):
            told = gap(machine)
            if told is None:
                continue
            plain = support.Plain(machine)
            self.assertIsInstance(told, tuple)
            name, lot, *words = told
            self.assertIn(lot, support.lots(machine.letters()))
            found = [plain.deed(word) for word in words]
            if name == "depth":
                self.assertEqual(set(words[0]), set(lot))
                self.assertTrue(plain.steady(found[0]))
                self.assertNotIn(found[0], plain.core(lot))
            else:
                both = plain.then(*found)
                self.assertLessEqual(set(found), set(plain.core(lot)))
                if name == "ends":
                    self.assertTrue(plain.steady(found[0]) and plain.steady(found[1]))
                    self.assertFalse(plain.steady(both))
                else:
                    self.assertEqual(name, "sums")
                    self.assertNotEqual(both, plain.then(found[1], found[0]))

    def test_by_hand(self):
        self.assertEqual(gap(RING), ("depth", "ab", "ab"))
        self.assertEqual(gap(SIGNS), ("ends", "ab", "a", "bb"))
        self.assertEqual(gap(THREE), ("sums", "ab", "a", "b"))
        self.assertIsNone(gap(FIRST))
        self.assertIsNone(gap(Machine("a", ((0,),), ())))
        self.assertEqual(gap(machine_of("ab", ("row", "aa"))), ("depth", "ab", "ab"))

    def test_first_lot_without_a_page(self):
        # The letters a and c make no page, and neither do all three.
        three = machine_of("abc", ("row", "cac"))
        self.assertEqual(gap(three)[1], "ac")
        self.assertEqual(gap(three), plain_gap(three))

    def test_number_of_deeds(self):
        self.assertIsNotNone(gap(HUNDRED))
        self.assertEqual(gap(HUNDRED), plain_gap(HUNDRED))
        self.assertIsNone(gap(ENDS))
        self.assertIsNone(gap(counts(5, 5, 4)))
        for machine in (EXCHANGES, HUNDRED_AND_ONE, counts(6, 6, 5)):
            with self.assertRaises(TooMany) as caught:
                gap(machine)
            self.assertEqual(caught.exception.most, 100)


if __name__ == "__main__":
    unittest.main()
