"""Point 28: boards."""

import random
import unittest

import support
from saidacross.boards import Board
from saidacross.dealings import seen, stretches
from saidacross.deeds import deeds
from saidacross.errors import NoDealing, NoPlace, NoRow, NoSign, NoWay, TooMany
from saidacross.kinds import fixed
from saidacross.machines import Machine, least
from saidacross.talks import Talk
from test_blocks import FIRST, RING, SIGNS
from test_dealings import NO_DEALINGS, drawn_dealing, drawn_row
from test_deeds import EXCHANGES, HUNDRED, HUNDRED_AND_ONE, counts
from test_gaps import ENDS
from test_pieces import CUBE

PARITY = Machine("ab", ((1, 0), (0, 1)), (0,))


def figures(number):
    return len(bin(number)) - 2


def ways_of(machine):
    return ["sums", "passed"] if fixed(machine) else ["passed"]


def plainly(machine, row):
    return support.plainly_says(machine, row.replace(".", ""))


def changed(row, place, sign):
    return row[:place] + sign + row[place + 1:]


def most_bits(machine, dealing, way, before, after, place):
    """The bound of the document for a change of a row."""
    if way == "sums":
        return figures(len(deeds(machine)))
    fewest = least(machine)
    total = 0
    end = 0
    for _, many in stretches(dealing):
        end += many
        if end > place:
            total += figures(len(fewest.table()))
            if (support.walk(fewest, before[:end].replace(".", ""))
                    == support.walk(fewest, after[:end].replace(".", ""))):
                break
    return total


class BoardTest(unittest.TestCase):
    def each(self, seed, many):
        """Boards, each with its machine, dealing, first row and way."""
        source = random.Random(seed)
        machines = support.drawn_machines(seed, many) + [FIRST, RING, CUBE, PARITY, HUNDRED, ENDS, counts(3, 2, 5)]
        for machine in machines:
            for way in ways_of(machine):
                dealing = drawn_dealing(source, 25)
                row = drawn_row(source, machine.letters(), dealing)
                yield machine, dealing, row, way, Board(machine, dealing, row, way)

    def test_at_the_begin(self):
        for machine, dealing, row, way, board in self.each(571, 60):
            self.assertEqual(board.row(), row)
            self.assertIs(board.answer(), plainly(machine, row))
            self.assertEqual(board.bits(), 0)
            self.assertIs(board.back(), False)
            self.assertEqual((board.row(), board.bits()), (row, 0))

    def test_many_changes(self):
        source = random.Random(572)
        said = silent = 0
        for machine, dealing, row, way, board in self.each(573, 150):
            past = []
            total = 0
            for _ in range(30):
                if source.random() < 0.25:
                    self.assertIs(board.back(), bool(past))
                    if past:
                        row, total = past.pop()
                else:
                    place = source.randrange(len(row))
                    sign = source.choice(machine.letters() + ".")
                    after = changed(row, place, sign)
                    messages = board.change(place, sign)
                    self.check_messages(messages, dealing)
                    bits = sum(len(told) for _, told in messages)
                    self.assertLessEqual(bits, most_bits(machine, dealing, way, row, after, place))
                    said, silent = said + bool(messages), silent + (not messages)
                    past.append((row, total))
                    row, total = after, total + bits
                self.assertEqual(board.row(), row)
                self.assertEqual(board.bits(), total)
                self.assertIs(board.answer(), plainly(machine, row))
        self.assertGreater(said, 2000)

    def check_messages(self, messages, dealing):
        self.assertIs(type(messages), list)
        for message in messages:
            self.assertIs(type(message), tuple)
            hand, bits = message
            self.assertIn(hand, set(dealing))
            self.assertRegex(bits, r"\A[01]+\Z")

    def test_bound_of_passed_is_reached_and_kept_short(self):
        # Behind the first stretch all is as it was; nothing more is said.
        board = Board(FIRST, "ABAB", "abab", "passed")
        self.assertEqual([hand for hand, _ in board.change(2, ".")], ["A"])
        self.assertEqual([hand for hand, _ in board.change(0, "b")], ["A", "B", "A", "B"])
        self.assertIs(board.answer(), False)
        # The same sign once more: its hand alone knows that it is the same.
        self.assertEqual([hand for hand, _ in board.change(0, "b")], ["A"])
        self.assertEqual([hand for hand, _ in board.change(3, "b")], ["B"])
        self.assertEqual(board.bits(), 7 * 2)

    def test_sums(self):
        board = Board(PARITY, "AABC", "ab.a", "sums")
        for place, sign, hand in ((0, ".", "A"), (1, "a", "A"), (2, "a", "B"), (3, "a", "C"), (3, "b", "C")):
            messages = board.change(place, sign)
            self.assertEqual([told[0] for told in messages], [hand])
            self.assertIs(board.answer(), plainly(PARITY, board.row()))
        self.assertEqual(board.bits(), 5)

    def test_one_deed_alone(self):
        board = Board(Machine("ab", ((0, 0),), (0,)), "AB", "a.", "sums")
        self.assertEqual(board.change(0, "b"), [])
        self.assertEqual((board.bits(), board.row(), board.answer()), (0, "b.", True))
        self.assertIs(board.back(), True)
        self.assertEqual(board.row(), "a.")

    def test_small_and_great_dealings(self):
        source = random.Random(574)
        for machine in (FIRST, RING, CUBE, SIGNS, counts(3, 2, 5)):
            for way in ways_of(machine):
                for dealing in ("A", "B", "D", "A" * 400, "AB" * 200, "".join(source.choice("ABCD") * 4
                                                                              for _ in range(100))):
                    row = "." * len(dealing)
                    board = Board(machine, dealing, row, way)
                    for place in (0, len(dealing) - 1, len(dealing) // 2, 0):
                        sign = source.choice(machine.letters())
                        after = changed(row, place, sign)
                        messages = board.change(place, sign)
                        self.assertLessEqual(sum(len(bits) for _, bits in messages),
                                             most_bits(machine, dealing, way, row, after, place))
                        row = after
                        self.assertEqual((board.row(), board.answer()), (row, plainly(machine, row)))
                    for _ in range(4):
                        self.assertIs(board.back(), True)
                    self.assertIs(board.back(), False)
                    self.assertEqual((board.row(), board.bits()), ("." * len(dealing), 0))

    def test_lists_are_new(self):
        one, other = (Board(RING, "ABAB", "abab", "passed") for _ in range(2))
        for place, sign in ((0, "b"), (2, "."), (3, "a"), (0, "a")):
            messages = one.change(place, sign)
            self.assertEqual(other.change(place, sign), list(messages))
            messages.clear()
        self.assertEqual((one.row(), one.bits(), one.answer()), (other.row(), other.bits(), other.answer()))

    def test_boards_do_not_meet(self):
        one = Board(FIRST, "AB", "ab", "passed")
        other = Board(FIRST, "AB", "ab", "passed")
        one.change(0, "b")
        self.assertEqual((other.row(), other.bits(), other.back()), ("ab", 0, False))


class BackTest(unittest.TestCase):
    def test_what_is_taken_back_is_as_it_was(self):
        source = random.Random(581)
        for machine in support.drawn_machines(582, 80) + [RING, CUBE, HUNDRED]:
            for way in ways_of(machine):
                dealing = drawn_dealing(source, 15)
                board = Board(machine, dealing, drawn_row(source, machine.letters(), dealing), way)
                stood = [(board.row(), board.answer(), board.bits())]
                for _ in range(12):
                    board.change(source.randrange(len(dealing)), source.choice(machine.letters() + "."))
                    stood.append((board.row(), board.answer(), board.bits()))
                while len(stood) > 1:
                    self.assertEqual((board.row(), board.answer(), board.bits()), stood.pop())
                    self.assertIs(board.back(), True)
                self.assertEqual((board.row(), board.answer(), board.bits()), stood[0])
                self.assertIs(board.back(), False)

    def test_goes_on_as_if_the_change_had_not_been(self):
        source = random.Random(583)
        for machine in support.drawn_machines(584, 80) + [RING, CUBE, HUNDRED]:
            for way in ways_of(machine):
                dealing = drawn_dealing(source, 15)
                row = drawn_row(source, machine.letters(), dealing)
                one, other = Board(machine, dealing, row, way), Board(machine, dealing, row, way)
                for _ in range(15):
                    many = source.randint(0, 3)
                    for _ in range(many):
                        one.change(source.randrange(len(dealing)), source.choice(machine.letters() + "."))
                    for _ in range(many):
                        one.back()
                    place, sign = source.randrange(len(dealing)), source.choice(machine.letters() + ".")
                    self.assertEqual(one.change(place, sign), other.change(place, sign))
                    self.assertEqual((one.row(), one.answer(), one.bits()),
                                     (other.row(), other.answer(), other.bits()))


class WhatHandsKnowTest(unittest.TestCase):
    """Who speaks, how many bits, and which ones hangs only on what the point names."""

    def play(self, machine, dealing, row, way, places, signs, nexts, spoken):
        """Changes the places of a row to signs, and compares all that is said with other rows."""
        board = Board(machine, dealing, row, way)
        talk = Talk(machine, dealing, row, way)
        talk.run()
        heard = tuple(talk.heard())
        for at, (place, sign) in enumerate(zip(places, signs)):
            messages = board.change(place, sign)
            known = (heard, tuple(places[:at + 1]))
            for many in range(len(messages) + 1):
                key = (known, tuple(messages[:many]))
                if many == len(messages):
                    self.assertEqual(nexts.setdefault(key, None), None)
                else:
                    hand, bits = messages[many]
                    self.assertEqual(nexts.setdefault(key, (hand, len(bits))), (hand, len(bits)))
                    sees = seen(dealing, board.row(), hand)
                    self.assertEqual(spoken.setdefault((key, sees), bits), bits)
            heard += tuple(messages)
        self.assertEqual(nexts.setdefault((heard, tuple(places), "answer"), board.answer()), board.answer())
        return heard

    def test_all_rows_and_signs_of_small_dealings(self):
        source = random.Random(591)
        for machine in (FIRST, RING, PARITY, CUBE, SIGNS):
            signs = machine.letters() + "."
            for dealing in ("ABA", "AAB", "BAC", "BB"):
                rows = [row for row in support.words_up_to(signs, len(dealing)) if len(row) == len(dealing)]
                for way in ways_of(machine):
                    for _ in range(4):
                        places = [source.randrange(len(dealing)) for _ in range(2)]
                        nexts, spoken = {}, {}
                        for row in rows:
                            for pair in [one + other for one in signs for other in signs]:
                                self.play(machine, dealing, row, way, places, pair, nexts, spoken)

    def test_drawn_rows(self):
        source = random.Random(592)
        met = 0
        for machine in support.drawn_machines(593, 60) + [RING, PARITY, CUBE, FIRST, SIGNS] * 4:
            for way in ways_of(machine):
                dealing = drawn_dealing(source, 8, "ABC")
                places = [source.randrange(len(dealing)) for _ in range(6)]
                nexts, spoken, all_heard = {}, {}, []
                for _ in range(60):
                    row = drawn_row(source, machine.letters(), dealing)
                    signs = [source.choice(machine.letters() + ".") for _ in places]
                    all_heard.append(self.play(machine, dealing, row, way, places, signs, nexts, spoken))
                met += len(all_heard) - len(set(all_heard))
        self.assertGreater(met, 1000)

    def test_what_a_hand_that_is_not_asked_sees(self):
        # B's letters do nothing to the state; whatever they are, A says the same.
        machine = Machine("ab", ((1, 0), (0, 1)), (0,))
        for way in ("sums", "passed"):
            told = set()
            for row in ("a.b", "ab.", "a..", "abb"):
                board = Board(machine, "ABB", row, way)
                told.add(tuple(board.change(0, "b") + board.change(0, "a")))
            self.assertEqual(len(told), 1)

    def test_what_was_taken_back_does_not_count(self):
        source = random.Random(594)
        for machine in (FIRST, RING, PARITY, CUBE):
            for way in ways_of(machine):
                dealing = drawn_dealing(source, 10, "ABC")
                places = [source.randrange(len(dealing)) for _ in range(4)]
                row = drawn_row(source, machine.letters(), dealing)
                one, other = Board(machine, dealing, row, way), Board(machine, dealing, row, way)
                for place in places:
                    one.change(source.choice(places), source.choice(machine.letters()))
                    one.back()
                    sign = source.choice(machine.letters() + ".")
                    self.assertEqual(one.change(place, sign), other.change(place, sign))


class WrongTest(unittest.TestCase):
    def test_no_dealing_and_no_row(self):
        for machine in (FIRST, EXCHANGES):
            for dealing in NO_DEALINGS + [v for v in support.odd_values() if v != "A"]:
                with self.assertRaises(NoDealing):
                    Board(machine, dealing, None, None)
            rows = ["", "a", "abc", "ac", "ax", "a-", "A.", None, ["a", "b"], ("a", "b"), 7, True]
            for row in rows + support.odd_values():
                with self.assertRaises(NoRow):
                    Board(machine, "AB", row, None)

    def test_too_many_and_no_way(self):
        wrong = ["book", "", "sum", "Passed", "passed ", None, 0, True, ["sums"], ("passed",)]
        for machine in (EXCHANGES, HUNDRED_AND_ONE, counts(6, 6, 5)):
            for way in wrong + ["sums", "passed"]:
                with self.assertRaises(TooMany) as caught:
                    Board(machine, "AB", "a.", way)
                self.assertEqual(caught.exception.most, 100)
        for machine in (FIRST, RING, CUBE, PARITY):
            for way in wrong + support.odd_values():
                with self.assertRaises(NoWay):
                    Board(machine, "AB", "a.", way)
        for machine in (FIRST, RING, HUNDRED):
            with self.assertRaises(NoWay):
                Board(machine, "AB", "a.", "sums")

    def test_no_place_and_no_sign(self):
        for machine, way in ((FIRST, "passed"), (PARITY, "sums"), (PARITY, "passed")):
            board = Board(machine, "ABA", "ab.", way)
            board.change(1, "a")
            stood = (board.row(), board.bits(), board.answer())
            odd = [v for v in support.odd_values() if type(v) is not int or not 0 <= v <= 2]
            for place in [-1, 3, 400, True, False, None, "1", [1], (0,)] + odd:
                for sign in ("a", None):
                    with self.assertRaises(NoPlace):
                        board.change(place, sign)
            for sign in ["", "c", "ab", "..", "A", "-", None, 0, True, ["a"], ("a",)] + support.odd_values():
                with self.assertRaises(NoSign):
                    board.change(0, sign)
            self.assertEqual((board.row(), board.bits(), board.answer()), stood)
            self.assertEqual([board.back(), board.back()], [True, False])


if __name__ == "__main__":
    unittest.main()
