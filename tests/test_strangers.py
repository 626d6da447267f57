"""Point 21: talks of strangers, and what breaks them."""

import random
import unittest
import zlib

import support
from saidacross.dealings import seen
from saidacross.errors import IsFixed, NoBit, NoNumber, NoTurn, NotLength, TooMany
from saidacross.kinds import fixed
from saidacross.machines import Machine
from saidacross.strangers import break_long, break_talk
from saidacross.writings import mark_block, mark_rank, mark_writings
from test_answertables import woven
from test_blocks import FIRST, RING, SIGNS, THREE
from test_deeds import EXCHANGES, HUNDRED, HUNDRED_AND_ONE, counts
from test_pieces import CUBE
from test_writings import of_length


def drawn(*parts):
    """A number that looks drawn, always the same for the same parts."""
    return zlib.crc32(repr(parts).encode())


class Guess:
    """A stranger who says some bits, then an answer; it depends on `seed` how."""

    def __init__(self, seed, many):
        self.seed = seed
        self.many = many

    def turn(self, dealing, heard):
        if len(heard) >= self.many:
            return drawn(self.seed, heard) % 2 == 0
        return "AB"[drawn(self.seed, len(heard)) % 2]

    def tell(self, dealing, hand, sees, heard):
        return "01"[drawn(self.seed, hand, sees, heard) % 2]


class Silent(Guess):
    def turn(self, dealing, heard):
        return "AB"[len(heard) % 2]


class Uneven(Guess):
    """One who answers behind some lists of bits early, and behind others late or never."""

    def turn(self, dealing, heard):
        if heard and drawn(self.seed, heard) % 3 == 0:
            return drawn(self.seed, heard, 1) % 2 == 0
        return "AB"[drawn(self.seed, heard) % 2]


class Careful:
    """One who is right for all rows: the hands say all that they see, place by place."""

    def __init__(self, machine):
        self.machine = machine
        self.signs = "." + machine.letters()

    def turn(self, dealing, heard):
        if len(heard) == 3 * len(dealing):
            row = "".join(self.signs[int(heard[at:at + 3], 2)] for at in range(0, len(heard), 3))
            return support.plainly_says(self.machine, row.replace(".", ""))
        return dealing[len(heard) // 3]

    def tell(self, dealing, hand, sees, heard):
        place = len(heard) // 3
        sign = sees[dealing[:place].count(hand)]
        return bin(8 + self.signs.index(sign))[3:][len(heard) % 3]


class Helped:
    """One who knows the writings that come: A tells which of few kinds its own one is of."""

    def __init__(self, machine, most):
        self.machine = machine
        self.most = most

    def turn(self, dealing, heard):
        if len(heard) == self.most:
            return heard.count("1") % 2 == 1
        return "A"

    def tell(self, dealing, hand, sees, heard):
        at = len(heard)
        places = [place for place, sign in enumerate(sees) if sign != "."]
        return "01"[sum(places) >> at & 1]


class Watched:
    """A stranger whose calls are looked at."""

    def __init__(self, test, stranger, most):
        self.test = test
        self.stranger = stranger
        self.most = most
        self.last = None
        self.told = 0
        self.longest = 0

    def turn(self, dealing, heard):
        self.test.assertRegex(dealing, r"\A[AB]+\Z")
        self.test.assertRegex(heard, r"\A[01]*\Z")
        self.test.assertLessEqual(len(heard), self.most)
        if heard != "":
            # Behind each bit it is asked whose turn it is.
            self.test.assertEqual(self.last, ("tell", dealing, heard[:-1], heard[-1]))
        told = self.stranger.turn(dealing, heard)
        self.last = ("turn", dealing, heard, told)
        self.longest = max(self.longest, len(heard))
        return told

    def tell(self, dealing, hand, sees, heard):
        self.test.assertEqual(self.last, ("turn", dealing, heard, hand))
        self.test.assertEqual(len(sees), dealing.count(hand))
        self.test.assertLess(len(heard), self.most)
        bit = self.stranger.tell(dealing, hand, sees, heard)
        self.last = ("tell", dealing, heard, bit)
        self.told += 1
        return bit


def asked(stranger, dealing, row, most):
    """The answer of a stranger about a row, or None if there is none behind `most` bits."""
    heard = ""
    while True:
        told = stranger.turn(dealing, heard)
        if told is True or told is False:
            return told
        if len(heard) == most:
            return None
        heard += stranger.tell(dealing, told, seen(dealing, row, told), heard)


def strangers(machine, most):
    found = [Guess(seed, most) for seed in range(5)] + [Guess(9, max(0, most - 1)), Guess(7, 0)]
    return found + [Guess(3, most + 1), Silent(1, 0), Uneven(2, 0), Uneven(4, 0), Careful(machine),
                    Helped(machine, most)]


class BreakTest(unittest.TestCase):
    def check(self, call, machine, stranger, most):
        watched = Watched(self, stranger, most)
        told = call(machine, most, watched.turn, watched.tell)
        self.assertIsInstance(told, tuple)
        dealing, row = told
        self.assertRegex(dealing, r"\A[AB]+\Z")
        self.assertEqual(len(row), len(dealing))
        self.assertLessEqual(set(row), set(machine.letters() + "."))
        right = support.plainly_says(machine, row.replace(".", ""))
        self.assertIsNot(asked(stranger, dealing, row, most), right)
        self.assertEqual(call(machine, most, stranger.turn, stranger.tell), told)
        return told, watched

    def test_break_talk(self):
        for machine in support.drawn_machines(301, 25) + [EXCHANGES, HUNDRED_AND_ONE, FIRST, RING]:
            if not fixed(machine):
                for most in range(6):
                    for stranger in strangers(machine, most):
                        self.check(break_talk, machine, stranger, most)

    def test_break_long(self):
        for machine in of_length(302, 30)[:7] + [RING, SIGNS, THREE, HUNDRED]:
            thing = mark_block(machine)
            for most in range(6):
                marks = 1
                while mark_rank(machine, thing, marks) <= 2 ** most:
                    marks += 1
                self.assertLessEqual(marks, 6)
                dealing, ones, others = mark_writings(machine, thing, marks)
                rows = {woven(dealing, one, other) for one in ones for other in others}
                for stranger in strangers(machine, most):
                    told, _ = self.check(break_long, machine, stranger, most)
                    self.assertEqual(told[0], dealing)
                    self.assertIn(told[1], rows)

    def test_bits_are_asked_up_to_the_most(self):
        for call, machine in ((break_talk, FIRST), (break_long, RING)):
            for most in range(6):
                _, watched = self.check(call, machine, Silent(1, 0), most)
                self.assertEqual(watched.longest, most)
                self.assertEqual(watched.told, most)

    def test_answers_behind_the_last_bit_count(self):
        # Right for all rows of one place of each hand, by two bits: and wrong elsewhere.
        class Short:
            @staticmethod
            def turn(dealing, heard):
                return heard[0] == "1" if len(heard) == 2 else "AB"[len(heard)]

            @staticmethod
            def tell(dealing, hand, sees, heard):
                return "1" if "a" in sees else "0"

        told, _ = self.check(break_talk, FIRST, Short, 2)
        self.assertGreater(len(told[0]), 2)

    def test_every_stranger_of_one_bit(self):
        # A says one bit of what it sees, and the answer is some function of it.
        dealing, ones, _ = mark_writings(RING, mark_block(RING), 2)
        for mask in range(2 ** len(ones)):
            for replies in ((True, False), (False, True), (True, True), (False, False)):
                class One:
                    @staticmethod
                    def turn(dealing, heard):
                        return replies[int(heard)] if heard else "A"

                    @staticmethod
                    def tell(dealing, hand, sees, heard):
                        return str(mask >> ones.index(sees) & 1) if sees in ones else "0"

                self.check(break_long, RING, One, 1)
                self.check(break_talk, RING, One, 1)


class WrongTest(unittest.TestCase):
    @staticmethod
    def never(*_):
        raise AssertionError("it is asked")

    def test_no_number(self):
        for call in (break_talk, break_long):
            for machine in (FIRST, RING, CUBE, EXCHANGES, counts(5, 5, 4)):
                for most in [-1, 6, True, False, None, "1", [1], 10 ** 30, (1,)]:
                    with self.assertRaises(NoNumber):
                        call(machine, most, self.never, self.never)
            for most in support.odd_values():
                if not (type(most) is int and 0 <= most <= 5):
                    with self.assertRaises(NoNumber):
                        call(RING, most, self.never, self.never)

    def test_kinds(self):
        for most in (0, 5):
            for machine in (CUBE, counts(5, 5, 4), counts(6, 6, 5), Machine("a", ((0,),), ())):
                with self.assertRaises(IsFixed):
                    break_talk(machine, most, self.never, self.never)
            for machine in (FIRST, CUBE, counts(5, 5, 4)):
                with self.assertRaises(NotLength):
                    break_long(machine, most, self.never, self.never)
            for machine in (EXCHANGES, HUNDRED_AND_ONE, counts(6, 6, 5)):
                with self.assertRaises(TooMany) as caught:
                    break_long(machine, most, self.never, self.never)
                self.assertEqual(caught.exception.most, 100)

    def test_no_turn(self):
        wrong = [None, 0, 1, "", "C", "a", "AB", ["A"], ("A",), {"A": 1}, "True", [True]]
        for call in (break_talk, break_long):
            for told in wrong:
                with self.assertRaises(NoTurn):
                    call(RING, 3, lambda dealing, heard: told, self.never)
                # Behind the last bit it is asked once more, and must be right there, too.
                for at in (1, 3):
                    with self.assertRaises(NoTurn):
                        call(RING, 3, lambda dealing, heard: told if len(heard) == at else "B",
                             lambda dealing, hand, sees, heard: "0")

    def test_no_bit(self):
        wrong = [None, 0, 1, True, False, "", "2", "00", "a", ["0"], ("1",), {"0": 1}]
        for call in (break_talk, break_long):
            for told in wrong:
                for at in (0, 2):
                    with self.assertRaises(NoBit):
                        call(RING, 3, lambda dealing, heard: "A",
                             lambda dealing, hand, sees, heard: told if len(heard) == at else "1")

    def test_no_bits_are_asked_for_if_none_may_be_said(self):
        for call in (break_talk, break_long):
            for told in (True, False, "A", "B"):
                dealing, row = call(RING, 0, lambda dealing, heard: told, self.never)
                self.assertIsNot(told, support.plainly_says(RING, row.replace(".", "")))


if __name__ == "__main__":
    unittest.main()
