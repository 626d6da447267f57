"""Point 16: talks of hands about a row."""

import random
import unittest

import support
from saidacross.books import book
from saidacross.dealings import crossed, seen
from saidacross.errors import NoDealing, NoNumber, NoRow, NoWay, TalkOver, TooMany
from saidacross.kinds import fixed
from saidacross.machines import Machine
from saidacross.sayings import machine_of
from saidacross.talks import Talk, most_bits, ways
from test_blocks import FIRST, RING, SIGNS, THREE
from test_books import FIVE, STEPS
from test_dealings import NO_DEALINGS, drawn_dealing, drawn_row, hands_of
from test_deeds import EXCHANGES, HUNDRED, HUNDRED_AND_ONE, counts
from test_gaps import ENDS
from test_pieces import CUBE

# A book with a depth of 2, and letters that are told modulo 3 and 2.
DEEP = machine_of("abc", ("and", ("cut", "a", ("count", "b", 3, 1), ("only", "abc")),
                          ("or", ("least", "c", 2), ("count", "b", 2, 0))))
# The more pieces there are, the more often a letter that is counted stands beside another one.
MIXED = machine_of("ab", ("and", ("count", "a", 3, 1), ("least", "b", 3)))
TURNS = machine_of("abc", ("and", ("count", "a", 3, 1), ("and", ("least", "b", 3),
                                                         ("count", "c", 2, 1))))
LATE = Machine("wxyz", ((1, 2, 0, 0), (1, 3, 1, 1), (2, 2, 2, 2), (3, 3, 3, 3)), (1, 3))
# Words of one letter do nothing at all, and of all letters nothing is asked.
NEVER = Machine("ab", ((0, 0),), ())


def plain_answer(machine, row):
    return support.plainly_says(machine, row.replace(".", ""))


def told_of(machine, dealing, row, way):
    """The messages and the answer of a whole talk."""
    talk = Talk(machine, dealing, row, way)
    answer = talk.run()
    return tuple(talk.heard()), answer


class AnswerTest(unittest.TestCase):
    def check(self, machine, dealing, row, way):
        messages, answer = told_of(machine, dealing, row, way)
        self.assertIs(answer, plain_answer(machine, row))
        for message in messages:
            self.assertIsInstance(message, tuple)
            hand, bits = message
            self.assertIn(hand, hands_of(dealing))
            self.assertRegex(bits, r"\A[01]+\Z")
        self.assertLessEqual(sum(len(bits) for _, bits in messages),
                             most_bits(machine, dealing, way))

    def test_drawn(self):
        source = random.Random(241)
        seen_ways = {"sums": 0, "book": 0, "passed": 0}
        for machine in support.drawn_machines(242, 260) + [DEEP, ENDS, FIVE, STEPS, MIXED, TURNS, LATE] * 4:
            for way in ways(machine):
                seen_ways[way] += 1
                for _ in range(3):
                    dealing = drawn_dealing(source, source.choice([3, 12, 60]))
                    self.check(machine, dealing, drawn_row(source, machine.letters(), dealing), way)
        self.assertGreater(min(seen_ways.values()), 20)

    def test_rows_with_few_letters_and_with_many_pieces(self):
        source = random.Random(243)
        for machine in [DEEP, ENDS, FIVE, STEPS, CUBE, FIRST, MIXED, TURNS, LATE] * 12:
            dealing = drawn_dealing(source, 80)
            letters = "".join(source.sample(machine.letters(),
                                            source.randint(1, len(machine.letters()))))
            row = (letters * 80)[:len(dealing)]
            for way in ways(machine):
                self.check(machine, dealing, row, way)
                self.check(machine, dealing, row[:len(row) // 2].ljust(len(row), "."), way)

    def test_few_pieces(self):
        # Less than twice as many as the depth: they are found one by one.
        source = random.Random(252)
        for machine in (MIXED, TURNS, DEEP, STEPS):
            depth = book(machine)[machine.letters()][0]
            self.assertGreater(depth, 1)
            for _ in range(60):
                row = ""
                for _ in range(source.randint(1, 2 * depth)):
                    piece = list(machine.letters() + source.choice(machine.letters()))
                    source.shuffle(piece)
                    row += "".join(piece) + "." * source.randint(0, 2)
                dealing = "".join(source.choice("ABC") for _ in row)
                self.check(machine, dealing, row, "book")
                self.check(machine, "D" * len(row), row, "book")

    def test_great_dealings(self):
        source = random.Random(244)
        for machine in (DEEP, ENDS, FIVE, RING, counts(5, 5, 4), FIRST):
            for dealing in ("ABCD" * 100, "A" * 400, "D" * 200 + "A" * 200, "AB" * 200):
                for way in ways(machine):
                    self.check(machine, dealing, drawn_row(source, machine.letters(), dealing), way)

    def test_all_rows_of_small_dealings(self):
        for machine in (FIRST, CUBE, RING, THREE, SIGNS, NEVER, Machine("a", ((1,), (0,)), (1,))):
            rows = support.words_up_to(machine.letters() + ".", 5)
            for dealing in ("A", "B", "D", "AB", "BBA", "ACA", "ABAB", "AAAA", "ABCDA"):
                for row in rows:
                    if len(row) == len(dealing):
                        for way in ways(machine):
                            self.check(machine, dealing, row, way)

    def test_empty_rows(self):
        for machine in (FIRST, CUBE, RING, DEEP, ENDS, NEVER, HUNDRED):
            for dealing in ("A", "C", "AB", "DDAB", "AB" * 200):
                for way in ways(machine):
                    self.check(machine, dealing, "." * len(dealing), way)

    def test_only_hands_that_have_places_speak(self):
        for machine in (CUBE, DEEP, RING):
            for way in ways(machine):
                for dealing in ("A", "B", "DD", "ADDA"):
                    messages, _ = told_of(machine, dealing, "b" * len(dealing), way)
                    self.assertLessEqual({hand for hand, _ in messages}, set(dealing))

    def test_answer_that_is_known_at_the_begin(self):
        for way in ("sums", "passed"):
            talk = Talk(NEVER, "ABAB", "ab.a", way)
            self.assertIs(talk.answer(), False)
            self.assertEqual((talk.heard(), talk.bits(), talk.run()), ([], 0, False))
            with self.assertRaises(TalkOver):
                talk.step()
            self.assertIsNone(talk.back(0))


class WhatIsHeardTest(unittest.TestCase):
    """What is said depends on what was heard, and the bits on what the hand sees, too."""

    def check(self, machine, dealing, rows, way):
        nexts = {}
        spoken = {}
        alike = {}
        for row in rows:
            messages, answer = told_of(machine, dealing, row, way)
            for at in range(len(messages) + 1):
                over = at == len(messages)
                hand, bits = ("over", answer) if over else messages[at]
                size = bits if over else len(bits)
                self.assertEqual(nexts.setdefault(messages[:at], (hand, size)), (hand, size))
                if not over:
                    key = (messages[:at], seen(dealing, row, hand))
                    self.assertEqual(spoken.setdefault(key, bits), bits)
            alike.setdefault(messages, []).append(row)
        return alike

    def check_crossed(self, machine, dealing, alike, way, source):
        """Rows crossed of rows with the same messages have these, too. Returns how many did."""
        crossings = 0
        for messages, rows in alike.items():
            answers = {plain_answer(machine, row) for row in rows}
            self.assertEqual(len(answers), 1)
            for _ in range(min(4, len(rows) - 1)):
                picked = [source.choice(rows) for _ in hands_of(dealing)]
                told = told_of(machine, dealing, crossed(dealing, picked), way)
                self.assertEqual(told, (messages, answers.copy().pop()))
                crossings += 1
        return crossings

    def test_all_rows_of_small_dealings(self):
        source = random.Random(245)
        total = 0
        for machine in (FIRST, CUBE, RING, SIGNS, FIVE, MIXED, machine_of("ab", ("in", "aba"))):
            for dealing in ("ABAB", "AABBA", "ABBAC", "BAB", "AACA", "BBBB", "ABAABB"):
                rows = [row for row in support.words_up_to(machine.letters() + ".", len(dealing))
                        if len(row) == len(dealing)]
                for way in ways(machine):
                    alike = self.check(machine, dealing, rows, way)
                    total += self.check_crossed(machine, dealing, alike, way, source)
        self.assertGreater(total, 4000)

    def test_drawn_rows(self):
        source = random.Random(246)
        for machine in support.drawn_machines(247, 40) + [DEEP, STEPS, ENDS, MIXED, TURNS, LATE] * 2:
            dealing = drawn_dealing(source, 30)
            rows = [drawn_row(source, machine.letters(), dealing) for _ in range(40)]
            for way in ways(machine):
                alike = self.check(machine, dealing, rows, way)
                self.check_crossed(machine, dealing, alike, way, source)

    def test_rows_whose_letters_stand_elsewhere_in_a_stretch(self):
        # Within long stretches many rows are told alike: so crossings come of unlike rows.
        source = random.Random(248)
        total = 0
        for machine in (DEEP, STEPS, FIVE, FIRST, CUBE, ENDS):
            for _ in range(4):
                dealing = "".join(source.choice("ABC") * 8 for _ in range(4))
                row = list(drawn_row(source, machine.letters() + "..", dealing))
                rows = []
                for _ in range(60):
                    begin = source.randrange(0, len(row) - 1)
                    if dealing[begin] == dealing[begin + 1]:
                        row[begin:begin + 2] = row[begin:begin + 2][::-1]
                    rows.append("".join(row))
                alike = self.check(machine, dealing, sorted(set(rows)), "book")
                total += self.check_crossed(machine, dealing, alike, "book", source)
        self.assertGreater(total, 100)

    def test_equal_talks(self):
        source = random.Random(249)
        for machine in support.drawn_machines(250, 40) + [DEEP, ENDS]:
            twin = Machine("a", ((0,),), ())
            dealing = drawn_dealing(source, 30)
            row = drawn_row(source, machine.letters(), dealing)
            for way in ways(machine):
                told = told_of(machine, dealing, row, way)
                Talk(twin, "AB", "a.", "sums").run()
                self.assertEqual(told_of(machine, dealing, row, way), told)


class StepTest(unittest.TestCase):
    TALKS = [(FIRST, "ABBA", "b.ab", "book"), (CUBE, "ABC", "aba", "sums"), (RING, "ABAB", "abab", "passed"),
             (DEEP, "AABBCCAABB", "abcabc.bcb", "book"), (ENDS, "ABDA", "adcb", "passed")]

    def each(self):
        for machine, dealing, row, way in self.TALKS:
            messages, answer = told_of(machine, dealing, row, way)
            self.assertTrue(messages)
            yield Talk(machine, dealing, row, way), list(messages), answer

    def check(self, talk, messages, many, answer):
        """That so many of the messages were said."""
        self.assertEqual(talk.heard(), messages[:many])
        self.assertEqual(talk.bits(), sum(len(bits) for _, bits in messages[:many]))
        self.assertIs(talk.answer(), answer if many == len(messages) else None)

    def test_step_by_step(self):
        for talk, messages, answer in self.each():
            for at, message in enumerate(messages):
                self.check(talk, messages, at, answer)
                self.assertEqual(talk.step(), message)
            self.check(talk, messages, len(messages), answer)
            self.assertIs(talk.run(), answer)
            self.check(talk, messages, len(messages), answer)

    def test_run_from_anywhere(self):
        for talk, messages, answer in self.each():
            for many in range(len(messages) + 1):
                talk.back(len(talk.heard()))
                for _ in range(many):
                    talk.step()
                self.assertIs(talk.run(), answer)
                self.check(talk, messages, len(messages), answer)

    def test_over(self):
        for talk, messages, answer in self.each():
            talk.run()
            for _ in range(3):
                with self.assertRaises(TalkOver):
                    talk.step()
                self.check(talk, messages, len(messages), answer)
            talk.back(1)
            self.assertEqual(talk.step(), messages[-1])

    def test_back(self):
        for talk, messages, answer in self.each():
            talk.run()
            for many in range(len(messages) + 1):
                self.assertIsNone(talk.back(many))
                self.check(talk, messages, len(messages) - many, answer)
                for message in messages[len(messages) - many:]:
                    self.assertEqual(talk.step(), message)
                self.check(talk, messages, len(messages), answer)
            talk.back(len(messages))
            self.assertIsNone(talk.back(0))
            self.check(talk, messages, 0, answer)
            self.assertIs(talk.run(), answer)

    def test_back_by_a_wrong_number(self):
        for talk, messages, answer in self.each():
            talk.step()
            wrong = [2, -1, True, False, None, "1", [1], 10 ** 30, len(messages) + 1]
            for many in wrong + [v for v in support.odd_values() if v not in (0, 1)]:
                with self.assertRaises(NoNumber):
                    talk.back(many)
                self.check(talk, messages, 1, answer)
            talk.back(1)
            with self.assertRaises(NoNumber):
                talk.back(1)
            talk.back(0)

    def test_copy(self):
        for talk, messages, answer in self.each():
            many = len(messages) // 2
            for _ in range(many):
                talk.step()
            twin = talk.copy()
            self.assertIsInstance(twin, Talk)
            self.check(twin, messages, many, answer)
            self.assertEqual(twin.step(), messages[many])
            self.check(talk, messages, many, answer)
            talk.back(many)
            self.check(twin, messages, many + 1, answer)
            third = twin.copy()
            self.assertIs(talk.run(), answer)
            self.check(third, messages, many + 1, answer)
            third.back(many + 1)
            self.check(twin, messages, many + 1, answer)
            self.assertIs(twin.run(), answer)
            self.assertIs(third.run(), answer)

    def test_lists_are_new(self):
        for talk, messages, answer in self.each():
            talk.run()
            talk.heard().clear()
            told = talk.heard()
            told[0] = None
            self.check(talk, messages, len(messages), answer)
            twin = talk.copy()
            twin.heard().clear()
            self.check(talk, messages, len(messages), answer)


class WrongTest(unittest.TestCase):
    NO_WAYS = ["", "sum", "Book", "passed ", None, 0, True, ["book"], ("book",), {"book": 1}]

    def test_no_dealing(self):
        for machine in (FIRST, EXCHANGES):
            for dealing in NO_DEALINGS + [v for v in support.odd_values() if v != "A"]:
                with self.assertRaises(NoDealing):
                    Talk(machine, dealing, None, None)

    def test_no_row(self):
        rows = ["", "a", "abc", "ac", "ax", "a-", "A.", None, ["a", "b"], ("a", "b"), 7, True]
        for machine in (FIRST, EXCHANGES):
            for row in rows + support.odd_values():
                with self.assertRaises(NoRow):
                    Talk(machine, "AB", row, None)

    def test_too_many_comes_ahead_of_no_way(self):
        for machine in (EXCHANGES, HUNDRED_AND_ONE, counts(6, 6, 5)):
            for way in self.NO_WAYS + ["sums", "book", "passed"]:
                with self.assertRaises(TooMany) as caught:
                    Talk(machine, "AB", "a.", way)
                self.assertEqual(caught.exception.most, 100)

    def test_no_way(self):
        for machine in (FIRST, RING, CUBE):
            for way in self.NO_WAYS + support.odd_values():
                with self.assertRaises(NoWay):
                    Talk(machine, "AB", "a.", way)
        for machine, way in ((FIRST, "sums"), (RING, "sums"), (RING, "book"), (HUNDRED, "book")):
            with self.assertRaises(NoWay):
                Talk(machine, "AB", "a.", way)
        for machine in support.drawn_machines(251, 60):
            there = {"sums": fixed(machine), "book": book(machine) is not None, "passed": True}
            for way in there:
                if there[way]:
                    Talk(machine, "A", ".", way)
                else:
                    with self.assertRaises(NoWay):
                        Talk(machine, "A", ".", way)

    def test_just_a_hundred_deeds(self):
        for machine in (HUNDRED, ENDS, counts(5, 5, 4)):
            for way in ways(machine):
                self.assertIs(Talk(machine, "AB", "ab", way).run(), plain_answer(machine, "ab"))


if __name__ == "__main__":
    unittest.main()
