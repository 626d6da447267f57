"""Point 23: letters that must be silent."""

import unittest

import support
from saidacross.errors import NoKind, TooMany
from saidacross.kinds import kind
from saidacross.machines import Machine
from saidacross.quietly import quiet
from saidacross.sayings import machine_of
from saidacross.together import without
from test_blocks import FIRST, RING
from test_deeds import EXCHANGES, HUNDRED, HUNDRED_AND_ONE, ORDER, counts
from test_gaps import ENDS
from test_pieces import CUBE

KINDS = ["fixed", "digits", "length"]


def plainly_quiet(machine, most):
    """The list by the kinds of the machines without all strings of letters."""
    letters = machine.letters()
    fine = [out for out in [""] + support.lots(letters) if out != letters
            and KINDS.index(kind(without(machine, out))) <= KINDS.index(most)]
    return [out for out in fine if not any(set(part) < set(out) for part in fine)]


class QuietTest(unittest.TestCase):
    def test_by_kinds(self):
        several = 0
        for machine in support.drawn_machines(621, 250) + [HUNDRED, ENDS, RING, FIRST, CUBE]:
            for most in ("fixed", "digits"):
                told = quiet(machine, most)
                self.assertIs(type(told), list)
                self.assertEqual(told, plainly_quiet(machine, most))
                self.assertTrue(told)
                several += len(told) > 1
        self.assertGreater(several, 60)

    def test_machines_of_sayings(self):
        for saying in (("row", "ab"), ("row", "abcd"), ("and", ("row", "ab"), ("in", "cd")),
                       ("or", ("row", "bd"), ("cutlast", "c", ("last", "a"), ("first", "b"))),
                       ("and", ("row", "ab"), ("row", "cd"))):
            machine = machine_of("abcd", saying)
            for most in ("fixed", "digits"):
                self.assertEqual(quiet(machine, most), plainly_quiet(machine, most))

    def test_by_hand(self):
        self.assertEqual(quiet(ORDER, "fixed"), ["a", "b"])
        self.assertEqual(quiet(ORDER, "digits"), [""])
        self.assertEqual(quiet(RING, "digits"), ["a", "b"])
        self.assertEqual(quiet(CUBE, "fixed"), [""])
        pairs = machine_of("abcd", ("or", ("in", "ab"), ("in", "cd")))
        self.assertEqual(quiet(pairs, "fixed"), ["ac", "ad", "bc", "bd"])
        # One letter is enough, or two others are.
        self.assertEqual(quiet(machine_of("abc", ("or", ("in", "ab"), ("in", "ac"))), "fixed"), ["a", "bc"])

    def test_one_letter(self):
        for machine in (Machine("z", ((0,),), ()), Machine("c", ((1,), (2,), (1,)), (0, 2)),
                        machine_of("q", ("row", "qqq"))):
            self.assertEqual([quiet(machine, "fixed"), quiet(machine, "digits")], [[""], [""]])

    def test_lists_are_new(self):
        quiet(ORDER, "fixed").clear()
        self.assertEqual(quiet(ORDER, "fixed"), ["a", "b"])

    def test_no_kind(self):
        wrong = ["length", "", "Fixed", "fixed ", None, 0, True, ["fixed"], ("fixed",), {"fixed": 1}]
        for machine in (FIRST, EXCHANGES):
            for most in wrong + support.odd_values():
                with self.assertRaises(NoKind):
                    quiet(machine, most)

    def test_too_many(self):
        for machine in (EXCHANGES, HUNDRED_AND_ONE, counts(6, 6, 5)):
            for most in ("fixed", "digits"):
                with self.assertRaises(TooMany) as caught:
                    quiet(machine, most)
                self.assertEqual(caught.exception.most, 100)
        self.assertEqual(quiet(HUNDRED, "digits"), plainly_quiet(HUNDRED, "digits"))


if __name__ == "__main__":
    unittest.main()
