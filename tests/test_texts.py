"""Point 24: machines and talks as texts."""

import random
import unittest

import support
from saidacross.dealings import stretches
from saidacross.errors import NoMessages, NoText
from saidacross.machines import Machine, least, says
from saidacross.talks import Talk, ways
from saidacross.texts import machine_text, read_machine, read_talk, talk_text
from test_blocks import FIRST, RING
from test_dealings import drawn_dealing, drawn_row
from test_deeds import EXCHANGES, HUNDRED, ORDER, counts
from test_halves import JUST, MORE, NEVER
from test_halves import around as ring

ORDER_TEXT = "letters ab\nstate 1 2\nstate 1 3\nstate 2 2\nstate 3 3\naccepts 1 3"
SIGNS = "0123456789abz ABD.|-+\n\t()"


def spoiled_texts(text):
    """The text with a sign left out, put in, exchanged or doubled, at each of its places."""
    for at in range(len(text) + 1):
        yield text[:at]
        yield text[at:]
        yield text[:at] + text[at + 1:]
        yield text[:at] + text[at:at + 2][::-1] + text[at + 2:]
        for sign in SIGNS:
            yield text[:at] + sign + text[at:]
            yield text[:at] + sign + text[at + 1:]


def plain_text(machine):
    lines = ["letters " + machine.letters()]
    lines += ["state " + " ".join(map(str, row)) for row in machine.table()]
    return "\n".join(lines + ["accepts" + "".join(f" {state}" for state in machine.accepts())])


class MachineTextTest(unittest.TestCase):
    MACHINES = [FIRST, RING, ORDER, HUNDRED, EXCHANGES, NEVER, JUST, MORE, counts(5, 5, 2, 4), ring(12), ring(1500),
                Machine("az", ((0, 0),), (0,))]

    def test_text(self):
        for machine in support.drawn_machines(631, 100) + self.MACHINES:
            self.assertEqual(machine_text(machine), plain_text(machine))
        self.assertEqual(machine_text(ORDER), ORDER_TEXT)
        self.assertEqual(machine_text(Machine("z", ((0,),), ())), "letters z\nstate 0\naccepts")

    def test_read_back(self):
        for machine in support.drawn_machines(632, 100) + self.MACHINES:
            other = read_machine(machine_text(machine))
            self.assertIs(type(other), Machine)
            self.assertEqual(other, machine)

    def test_more_states_than_can_be_constructed(self):
        # Nothing is left out: not the states that are not needed, either.
        text = "\n".join(["letters q"] + ["state 7"] * 11 + ["accepts 0 7 10"])
        machine = read_machine(text)
        self.assertEqual(machine.table(), ((7,),) * 11)
        self.assertEqual(machine.accepts(), (0, 7, 10))
        self.assertEqual(least(machine), Machine("q", ((0,),), (0,)))
        self.assertIs(says(machine, "qq"), True)
        self.assertEqual(machine_text(machine), text)

    def test_spoiled(self):
        right = 0
        for machine in (ORDER, Machine("z", ((0,),), ()), Machine("b", ((1,), (0,)), (0, 1)), ring(11)):
            text = machine_text(machine)
            for wrong in spoiled_texts(text):
                try:
                    other = read_machine(wrong)
                except NoText:
                    continue
                self.assertEqual(machine_text(other), wrong)
                right += 1
        self.assertGreater(right, 50)

    def test_no_text(self):
        wrong = ["", "\n", " ", "letters ab", ORDER_TEXT + "\n", "\n" + ORDER_TEXT, ORDER_TEXT + " ",
                 ORDER_TEXT.replace("\n", "|"), ORDER_TEXT.replace("\n", "\n\n"), ORDER_TEXT.replace("1", "01"),
                 ORDER_TEXT.replace("1 3", "1  3"), ORDER_TEXT.replace("1", "+1"), ORDER_TEXT.replace("1", "-1"),
                 ORDER_TEXT.replace("1", "1.0"), ORDER_TEXT.replace("3 3", "3 4"), ORDER_TEXT.replace("3 3", "3 3 3"),
                 ORDER_TEXT.replace("3 3", "3"), ORDER_TEXT.replace("3 3", "3 9" + "9" * 6000),
                 ORDER_TEXT.replace("3 3", "3 0" + "0" * 6000), ORDER_TEXT.replace("s 1 3", "s 3 1"),
                 ORDER_TEXT.replace("s 1 3", "s 1 1"), ORDER_TEXT.replace("s 1 3", "s 1 4"),
                 ORDER_TEXT.replace("ab", "ba"), ORDER_TEXT.replace("ab", "a"), ORDER_TEXT.replace("ab", "abc"),
                 ORDER_TEXT.replace("ab", "aa"), ORDER_TEXT.replace("ab", "aB"), ORDER_TEXT.replace("ab", ""),
                 ORDER_TEXT.replace("letters", "Letters"), ORDER_TEXT.replace("state", "states"),
                 ORDER_TEXT.replace("accepts", "accept"), ORDER_TEXT[:-len("\naccepts 1 3")],
                 "letters ab\naccepts", "letters abcde\nstate 0 0 0 0 0\naccepts", "letters a\nstate 1_0\naccepts",
                 "letters a\nstate 0\naccepts ", "letters a\nstate 0\naccepts\n", "letters a\nstate\naccepts",
                 "letters a\nstate 0\naccepts\naccepts", "letters a\naccepts\nstate 0", "letters a\nstate 0\nstate 0",
                 "letters a\rstate 0\raccepts", "letters a\nstate 0\r\naccepts", "letters a\nstate \t0\naccepts"]
        for text in wrong + support.odd_values() + [[ORDER_TEXT], (ORDER_TEXT,)]:
            with self.assertRaises(NoText):
                read_machine(text)


class TalkTextTest(unittest.TestCase):
    def test_text_and_back(self):
        source = random.Random(641)
        for machine in support.drawn_machines(642, 60):
            dealing = drawn_dealing(source, 30)
            row = drawn_row(source, machine.letters(), dealing)
            for way in ways(machine):
                talk = Talk(machine, dealing, row, way)
                talk.run()
                text = talk_text(talk.heard())
                self.assertEqual(text, "\n".join(f"{hand} {bits}" for hand, bits in talk.heard()))
                self.assertEqual(read_talk(text), talk.heard())
                self.assertEqual(text.count("\n") + 1, max(1, len(talk.heard())))

    def test_by_hand(self):
        self.assertEqual(talk_text([]), "")
        self.assertEqual(read_talk(""), [])
        self.assertEqual(talk_text([("A", "0"), ("D", "0110")]), "A 0\nD 0110")
        self.assertEqual(read_talk("A 0\nD 0110"), [("A", "0"), ("D", "0110")])
        long = [("B", "01" * 3000), ("C", "1")] * 500
        self.assertEqual(read_talk(talk_text(long)), long)
        self.assertEqual(len(read_talk(talk_text([("A", "1")] * len(stretches("AB" * 200))))), 400)

    def test_lists_are_new(self):
        read_talk("").append(("A", "0"))
        self.assertEqual(read_talk(""), [])

    def test_spoiled(self):
        right = 0
        for text in ("A 0", "A 0\nD 0110\nB 1", "C 10\nC 10"):
            for wrong in spoiled_texts(text):
                try:
                    messages = read_talk(wrong)
                except NoText:
                    continue
                self.assertEqual(talk_text(messages), wrong)
                right += 1
        self.assertGreater(right, 60)

    def test_no_text(self):
        wrong = ["\n", " ", "A", "A ", "A0", "A  0", " A 0", "A 0 ", "A 0\n", "\nA 0", "A 0\n\nB 1", "E 0", "a 0",
                 "A 2", "A 0|B 1", "AB 0", "A 0 1", "A\n0", "A\t0", "A 0\rB 1", "A 01\nB", "A 01\nB ", "A -1"]
        for text in wrong + support.odd_values() + [["A 0"], [("A", "0")]]:
            with self.assertRaises(NoText):
                read_talk(text)

    def test_no_messages(self):
        wrong = [("A", "0"), (("A", "0"),), "A 0", [("A", "")], [("E", "0")], [("a", "0")], [("", "0")], [("AB", "0")],
                 [("A", "2")], [("A", "0 1")], [["A", "0"]], [("A",)], [("A", "0", "1")], [("A", 0)], [(1, "0")],
                 [("A", "0"), None], [("A", True)], [["A 0"]], {"A": "0"}, None, [("A", ["0"])], [(["A"], "0")]]
        for messages in wrong + [v for v in support.odd_values() if v != []]:
            with self.assertRaises(NoMessages):
                talk_text(messages)


if __name__ == "__main__":
    unittest.main()
