"""Point 24: sayings as texts."""

import random
import unittest

import support
from saidacross.errors import NoSaying, NoText
from saidacross.sayings import machine_of
from saidacross.sayingtexts import read_saying, saying_text
from test_sayings import drawn_saying, one_of_each
from test_texts import spoiled_texts

FINE = [("first", "z"), ("only", ""), ("only", "abcdefghijklmnopqrstuvwxyz"), ("only", "kz"), ("in", "zyxa"),
        ("row", "qqqq"), ("least", "m", 5), ("count", "b", 6, 5), ("count", "b", 1, 0),
        ("and", ("first", "a"), ("not", ("count", "b", 3, 0))),
        ("cut", "q", ("only", ""), ("cutlast", "r", ("last", "s"), ("row", "tu")))]


def plain_text(saying):
    parts = [plain_text(part) if isinstance(part, tuple) else str(part) or "-" for part in saying]
    return f"({' '.join(parts)})"


def deep(depth, head=("not",)):
    saying = ("first", "a")
    for _ in range(depth - 1):
        saying = head + (saying,) * (1 if head == ("not",) else 2)
    return saying


class SayingTextTest(unittest.TestCase):
    def each(self):
        source = random.Random(651)
        for _ in range(300):
            letters = "".join(sorted(source.sample("abcdefgxyz", source.randint(1, 10))))
            yield drawn_saying(source, letters, source.randint(1, 5))
        for saying in one_of_each() + FINE:
            yield saying
        for head in (("not",), ("and",), ("cut", "x")):
            yield deep(6, head)

    def test_text(self):
        for saying in self.each():
            self.assertEqual(saying_text(saying), plain_text(saying))
        self.assertEqual(saying_text(FINE[-2]), "(and (first a) (not (count b 3 0)))")
        self.assertEqual(saying_text(("cut", "q", ("only", ""), ("only", "ab"))), "(cut q (only -) (only ab))")

    def test_read_back(self):
        for saying in self.each():
            self.assertEqual(read_saying(saying_text(saying)), saying)
            self.assertIs(type(read_saying(saying_text(saying))), tuple)

    def test_six_deep_and_seven_deep(self):
        for head in (("not",), ("and",), ("or",), ("cut", "x"), ("cutlast", "y")):
            self.assertEqual(read_saying(plain_text(deep(6, head))), deep(6, head))
            with self.assertRaises(NoText):
                read_saying(plain_text(deep(7, head)))
            for depth in (7, 8, 30):
                with self.assertRaises(NoSaying):
                    saying_text(deep(depth, head))
        for depth in (8, 30, 300):
            with self.assertRaises(NoText):
                read_saying(plain_text(deep(depth)))

    def test_spoiled(self):
        right = 0
        for saying in FINE + [("or", ("least", "a", 2), ("last", "b")), ("cut", "a", ("only", ""), ("in", "ab"))]:
            for wrong in spoiled_texts(plain_text(saying)):
                try:
                    other = read_saying(wrong)
                except NoText:
                    continue
                self.assertEqual(saying_text(other), wrong)
                right += 1
        self.assertGreater(right, 300)

    def test_no_saying(self):
        wrong = ["first", "(first a)", ("first",), ("first", ""), ("first", "A"), ("first", "ab"), ("first", 1),
                 ("First", "a"),
                 ("count", "a", 7, 0), ("count", "a", 0, 0), ("count", "a", 3, 3), ("count", "a", True, False),
                 ("count", "a", 2), ("least", "a", 0), ("least", "a", 6), ("least", "a", True), ("in", ""),
                 ("in", "abcde"), ("row", ""), ("row", "a.b"), ("only", "ba"), ("only", "aa"), ("only", "-"),
                 ("only", "A"), ("only",), ("not",), ("not", "a"), ("not", ["first", "a"]), ["first", "a"],
                 ("and", ("first", "a")), ("or", ("first", "a"), None), ("cut", ("first", "a"), ("first", "a")),
                 ("cut", "ab", ("first", "a"), ("first", "a")), ("not", ("not", ("first", 0)))]
        for saying in wrong + support.odd_values():
            with self.assertRaises(NoSaying):
                saying_text(saying)

    def test_no_text(self):
        wrong = ["", "()", "( )", "(", ")", "first a", "(first a", "first a)", "(first a))", "((first a))",
                 "(first  a)",
                 " (first a)", "(first a) ", "( first a)", "(first a )", "(first a)\n", "(first a)(first a)",
                 "(first)", "(first -)", "(first (first a))", "(first a b)", "(first A)", "(First a)", "(last)",
                 "(count a 3)", "(count a 3 3)", "(count a 03 1)", "(count a +3 1)", "(count a 7 1)",
                 "(count a 3 -1)",
                 "(count a 3 1 )", "(count a 3 a)", "(count a 3" + "0" * 6000 + " 1)", "(least a 0)",
                 "(least a 6)",
                 "(least a 1_0)", "(least a -)", "(in -)", "(in )", "(in abcde)", "(row)", "(only)", "(only )",
                 "(only ba)", "(only -a)", "(only --)", "(not first a)", "(not -)", "(not (only -) )",
                 "(not(only -))",
                 "(and (first a))", "(and (first a)(last b))", "(and (first a) (last b) (last c))",
                 "(cut (first a) (last b))",
                 "(cut a (first a) (last b)", "(cut - (first a) (last b))", "(if a)",
                 "(" * 5000, "(not " * 5000,
                 "(not " * 5000 + "(first a)" + ")" * 5000, "(and (first\ta) (last b))", "(" + "a" * 5000 + ")"]
        for text in wrong + support.odd_values() + [["(first a)"], ("first", "a")]:
            with self.assertRaises(NoText):
                read_saying(text)

    def test_machines_of_what_is_read(self):
        source = random.Random(652)
        for _ in range(60):
            saying = drawn_saying(source, "abc", 3)
            self.assertEqual(machine_of("abc", read_saying(saying_text(saying))), machine_of("abc", saying))


if __name__ == "__main__":
    unittest.main()
