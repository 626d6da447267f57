"""Point 7: what is a saying, and of which words it is so."""

import random
import unittest

import support
from saidacross.errors import NoLetters, NoSaying, NoWord
from saidacross.sayings import holds, machine_of

A = ("first", "a")
NO = ("only", "")


def plainly_holds(saying, word):
    """Whether the saying is so of the word, by the words of the document."""
    head = saying[0]
    if head == "first":
        return len(word) > 0 and word[0] == saying[1]
    if head == "last":
        return len(word) > 0 and word[-1] == saying[1]
    if head == "count":
        return (sum(1 for x in word if x == saying[1]) - saying[3]) % saying[2] == 0
    if head == "least":
        return sum(1 for x in word if x == saying[1]) >= saying[2]
    if head == "in":
        rest = list(word)
        for x in saying[1]:
            if x not in rest:
                return False
            rest = rest[rest.index(x) + 1:]
        return True
    if head == "row":
        many = len(saying[1])
        return any(word[at:at + many] == saying[1] for at in range(len(word) - many + 1))
    if head == "only":
        return set(word) <= set(saying[1])
    if head == "not":
        return not plainly_holds(saying[1], word)
    if head in ("and", "or"):
        both = [plainly_holds(saying[1], word), plainly_holds(saying[2], word)]
        return all(both) if head == "and" else any(both)
    places = [at for at, x in enumerate(word) if x == saying[1]]
    if not places:
        return False
    at = places[0] if head == "cut" else places[-1]
    return plainly_holds(saying[2], word[:at]) and plainly_holds(saying[3], word[at + 1:])


def drawn_plain_saying(source, letters, row=True):
    """A drawn saying of the letters that is 1 deep."""
    heads = ["first", "last", "count", "least", "in", "only"] + ["row"] * row
    head = source.choice(heads)
    if head in ("first", "last"):
        return (head, source.choice(letters))
    if head == "count":
        many = source.randint(1, 6)
        return (head, source.choice(letters), many, source.randrange(many))
    if head == "least":
        return (head, source.choice(letters), source.randint(1, 5))
    if head in ("in", "row"):
        return (head, "".join(source.choice(letters) for _ in range(source.randint(1, 4))))
    return (head, "".join(x for x in letters if source.random() < 0.6))


def drawn_saying(source, letters, depth, row=True):
    """A drawn saying of the letters that is at most so deep."""
    if depth == 1 or source.random() < 0.2:
        return drawn_plain_saying(source, letters, row)
    head = source.choice(["not", "and", "or", "cut", "cutlast"])
    if head == "not":
        return (head, drawn_saying(source, letters, depth - 1, row))
    two = (drawn_saying(source, letters, depth - 1, row),
           drawn_saying(source, letters, depth - 1, row))
    return (head,) + ((source.choice(letters),) if head[:3] == "cut" else ()) + two


def one_of_each(letters="ab"):
    """Sayings of each kind, at the smallest and the greatest numbers."""
    found = [("first", "a"), ("first", "b"), ("last", "a"), ("last", "b")]
    for many in (1, 2, 3, 6):
        found += [("count", x, many, rest) for x in letters for rest in range(many)]
    found += [("least", x, many) for x in letters for many in (1, 2, 5)]
    for word in ("a", "b", "ab", "aa", "aba", "abab", "bbbb", "aabb"):
        found += [("in", word), ("row", word)]
    found += [("only", lot) for lot in ("", "a", "b", "ab")]
    some = [("last", "b"), ("count", "a", 2, 0), ("least", "b", 2), ("row", "ab"), NO]
    found += [("not", one) for one in some]
    for head in (("and",), ("or",), ("cut", "a"), ("cut", "b"), ("cutlast", "a"), ("cutlast", "b")):
        found += [head + (one, other) for one in some for other in some]
    return found


def deep(head, depth, inner=A):
    """A saying that is so deep, with this one in its middle."""
    saying = inner
    for at in range(depth - 1):
        if head == "not":
            saying = ("not", saying)
        elif head in ("and", "or"):
            saying = (head, saying, A) if at % 2 else (head, A, saying)
        else:
            saying = (head, "a", saying, A) if at % 2 else (head, "a", A, saying)
    return saying


def spoiled():
    """Tuples that are nearly sayings of the letters ab, and values of other kinds."""
    found = [v for v in support.odd_values()]
    found += [
        "first", ("first",), ("first", ""), ("first", "c"), ("first", "ab"), ("first", "a", "b"),
        ("first", ["a"]), ("first", ("a",)), ("first", None), ("first", 0), ("first", True),
        ["first", "a"], ("First", "a"), ("firs", "a"), ("", "a"), (None, "a"), (["first"], "a"),
        (("first",), "a"), ({}, "a"), (True, "a"), (0, "a"),
        ("last",), ("last", ""), ("last", "c"), ("last", "ba"), ("last", "a", "a"), ["last", "a"],
        ("last", False), ("count",), ("count", "a"), ("count", "a", 2), ("count", "a", 2, 0, 0),
        ("count", "c", 2, 0), ("count", "", 2, 0), ("count", "ab", 2, 0), ("count", 2, "a", 0),
        ("count", "a", 0, 0), ("count", "a", 7, 0), ("count", "a", -1, 0), ("count", "a", 2, 2),
        ("count", "a", 2, -1), ("count", "a", 6, 6), ("count", "a", 1, 1), ("count", "a", True, 0),
        ("count", "a", 1, False), ("count", "a", 2, True), ("count", "a", 2, False),
        ("count", "a", "2", 0), ("count", "a", 2, "0"), ("count", "a", (2,), 0),
        ("count", "a", 2, None), ("count", "a", None, 0), ("count", "a", 10 ** 40, 0),
        ("count", "a", 3, 5), ("count", "a", 3, 3),
        ("least",), ("least", "a"), ("least", "a", 0), ("least", "a", 6), ("least", "a", -1),
        ("least", "a", True), ("least", "a", "1"), ("least", "c", 1), ("least", "", 1),
        ("least", "ab", 1), ("least", 1, "a"), ("least", "a", 1, 1), ("least", "a", (1,)),
        ["least", "a", 1], ("least", "a", None),
        ("in",), ("in", ""), ("in", "ababa"), ("in", "ac"), ("in", "c"), ("in", "a", "b"),
        ("in", ["a"]), ("in", ("a", "b")), ("in", 1), ("in", None), ["in", "a"], ("in", "a "),
        ("row",), ("row", ""), ("row", "ababa"), ("row", "ac"), ("row", "c"), ("row", "a", "b"),
        ("row", ["a"]), ("row", ("a", "b")), ("row", 1), ("row", None), ["row", "a"],
        ("only",), ("only", "ba"), ("only", "aa"), ("only", "c"), ("only", "abc"),
        ("only", "a", "b"), ("only", ["a"]), ("only", ("a", "b")), ("only", ()), ("only", None),
        ("only", False), ["only", "a"], ("only", "aab"),
        ("not",), ("not", A, A), ("not", list(A)), ("not", "a"), ("not", None), ("not", True),
        ("not", ()), ("not", ("first", "c")), ["not", A], ("not", "first", "a"),
        ("cut",), ("cut", A, A), ("cut", "a", A), ("cut", "a", A, A, A), ("cut", "c", A, A),
        ("cut", "", A, A), ("cut", "ab", A, A), ("cut", "a", list(A), A), ("cut", "a", A, list(A)),
        ("cut", "a", None, A), ("cut", "a", A, ("last", "c")), ("cut", A, A, "a"),
        ["cut", "a", A, A], ("cut", ["a"], A, A), ("cut", True, A, A),
        ("cutlast",), ("cutlast", A, A), ("cutlast", "a", A), ("cutlast", "a", A, A, A),
        ("cutlast", "c", A, A), ("cutlast", "", A, A), ("cutlast", "ab", A, A),
        ("cutlast", "a", list(A), A), ("cutlast", "a", A, list(A)), ("cutlast", "a", A, 1),
        ["cutlast", "a", A, A], ("cutlast", None, A, A),
    ]
    for head in ("and", "or"):
        found += [(head,), (head, A), (head, A, A, A), (head, A, list(A)), (head, list(A), A),
                  (head, A, "a"), (head, "a", A), (head, A, ()), (head, A, ("first", "c")),
                  (head, ("count", "a", 2, 2), A), [head, A, A], (head, (A, A)), (head, None, A)]
    return found


class HoldsTest(unittest.TestCase):
    def test_each_kind(self):
        for saying in one_of_each():
            for word in support.words_up_to("ab", 6):
                self.assertIs(holds("ab", saying, word), plainly_holds(saying, word))

    def test_drawn(self):
        source = random.Random(11)
        for _ in range(500):
            letters = source.choice(["a", "ab", "bcz", "abcd"])
            saying = drawn_saying(source, letters, source.randint(1, 6))
            for _ in range(25):
                word = support.drawn_word(source, letters, source.choice([4, 12, 40]))
                self.assertIs(holds(letters, saying, word), plainly_holds(saying, word))

    def test_by_hand(self):
        cases = [
            (("first", "a"), ["a", "ab", "aab"], ["", "b", "ba"]),
            (("last", "a"), ["a", "ba"], ["", "b", "ab"]),
            (("count", "a", 6, 5), ["aaaaa", "babbaaa" + "ab"], ["", "aaaa", "aaaaaa"]),
            (("count", "a", 1, 0), ["", "a", "b"], []),
            (("least", "b", 5), ["bbbbb", "ababababab", "bbbbbb"], ["", "bbbb", "aaaaa"]),
            (("least", "a", 1), ["a", "ba"], ["", "b"]),
            (("in", "aba"), ["aba", "aabba", "bababb"], ["", "ab", "aab", "baab"]),
            (("row", "aba"), ["aba", "aabab", "babab"], ["", "ab", "abba", "aabba"]),
            (("only", ""), [""], ["a", "b"]),
            (("only", "b"), ["", "b", "bb"], ["a", "ba"]),
            (("not", ("only", "")), ["a", "b"], [""]),
            (("and", ("first", "a"), ("last", "b")), ["ab", "aab"], ["", "a", "ba", "b"]),
            (("or", ("first", "a"), ("last", "b")), ["ab", "a", "b", "bab"], ["", "ba"]),
            (("cut", "a", NO, NO), ["a"], ["", "b", "aa", "ba", "ab"]),
            (("cut", "a", ("only", "b"), ("least", "a", 1)), ["aa", "baba"], ["", "a", "bab"]),
            (("cutlast", "a", ("least", "a", 1), ("only", "b")), ["aa", "baba"], ["", "a", "bab"]),
            (("cutlast", "a", ("last", "b"), NO), ["ba", "aba"], ["", "a", "baa", "bab"]),
            (("cut", "a", NO, ("cut", "a", ("last", "b"), NO)), ["aba", "abba"], ["aa", "ababa"]),
            (("cutlast", "a", ("cutlast", "a", NO, ("last", "b")), NO), ["aba"], ["aa", "baba"]),
        ]
        for saying, yes, no in cases:
            self.assertEqual([word for word in yes if not holds("ab", saying, word)], [], saying)
            self.assertEqual([word for word in no if holds("ab", saying, word)], [], saying)

    def test_depths(self):
        for head in ("not", "and", "or", "cut", "cutlast"):
            for depth in (1, 2, 5, 6):
                saying = deep(head, depth)
                for word in ("", "a", "aaaaaaa", "abaabaaaa"):
                    self.assertIs(holds("ab", saying, word), plainly_holds(saying, word))
                machine_of("ab", saying)
            for depth in (7, 8, 28):
                for tell in (lambda s: holds("ab", s, "a"), lambda s: machine_of("ab", s)):
                    with self.assertRaises(NoSaying):
                        tell(deep(head, depth))

    def test_the_deepest_part_counts(self):
        six = deep("not", 6)
        five = deep("not", 5)
        for saying in (("and", five, A), ("and", A, five), ("cut", "a", five, A),
                       ("cutlast", "a", A, five), ("or", five, five)):
            self.assertIs(holds("ab", saying, "ab"), plainly_holds(saying, "ab"))
        for saying in (("and", six, A), ("and", A, six), ("cut", "a", six, A), ("cut", "a", A, six),
                       ("cutlast", "a", A, six), ("cutlast", "a", six, A), ("or", six, six),
                       ("not", six)):
            with self.assertRaises(NoSaying):
                holds("ab", saying, "ab")


class WrongTest(unittest.TestCase):
    def test_no_letters(self):
        bad = ["", "abcde", "ba", "aa", "A", "a1", "a.", ["a"], ("a", "b"), None, 0, True, "`", "{"]
        for letters in bad + [v for v in support.odd_values() if v != "z"]:
            for saying, word in ((A, "a"), (None, "a"), (A, None), ((), 0)):
                with self.assertRaises(NoLetters):
                    holds(letters, saying, word)
            for saying in (A, None, ()):
                with self.assertRaises(NoLetters):
                    machine_of(letters, saying)

    def test_no_saying(self):
        for saying in spoiled():
            with self.assertRaises(NoSaying):
                machine_of("ab", saying)
            for word in ("", "ab", "c", None, 3):
                with self.assertRaises(NoSaying):
                    holds("ab", saying, word)

    def test_a_spoiled_saying_inside(self):
        for inner in spoiled():
            for saying in (("not", inner), ("and", A, inner), ("or", inner, A),
                           ("cut", "a", A, inner), ("cutlast", "b", inner, A),
                           ("or", NO, ("and", NO, ("not", inner)))):
                with self.assertRaises(NoSaying):
                    machine_of("ab", saying)
                with self.assertRaises(NoSaying):
                    holds("ab", saying, "ab")

    def test_letters_are_those_that_are_told(self):
        self.assertIs(holds("bd", ("first", "d"), "db"), True)
        for letters, saying in (("bd", ("first", "c")), ("b", ("only", "bd")), ("bd", ("in", "bc")),
                                ("ac", ("least", "b", 1)), ("ac", ("cut", "b", A, A))):
            with self.assertRaises(NoSaying):
                holds(letters, saying, "")

    def test_no_word(self):
        odd = [v for v in support.odd_values() if not isinstance(v, str) or set(v) - set("ab")]
        for word in odd + ["c", "abc", "aB", ["a"], ("a",)]:
            for saying in (A, NO, ("not", A), ("and", NO, ("row", "aa"))):
                with self.assertRaises(NoWord):
                    holds("ab", saying, word)
        with self.assertRaises(NoWord):
            holds("bd", ("first", "b"), "bcd")

    def test_order_of_the_errors(self):
        with self.assertRaises(NoLetters):
            holds("ba", ("first", "c"), "c")
        with self.assertRaises(NoSaying):
            holds("ab", ("first", "c"), "c")
        with self.assertRaises(NoLetters):
            machine_of("ba", ("first", "c"))


if __name__ == "__main__":
    unittest.main()
