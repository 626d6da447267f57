"""Point 22: machines put together."""

import random
import unittest

import support
from saidacross.errors import NoLetters, NoWord, NoWords, OtherLetters, TooMany
from saidacross.halves import halves, settled
from saidacross.accounts import account
from saidacross.kinds import kind
from saidacross.machines import Machine, least, machine_of_parts, says
from saidacross.sayings import machine_of
from saidacross.together import around, backward, both, either, otherwise, put, without
from test_blocks import FIRST, RING
from test_deeds import EXCHANGES, HUNDRED, ORDER, counts
from test_gaps import ENDS
from test_halves import FAR, JUST, MORE, NEVER, turned
from test_halves import around as ring

KINDS = ["fixed", "digits", "length"]


def lists_of_letters(letters):
    """All strings of different letters, ascending, in the order of strings."""
    return [""] + support.lots(letters)


class TogetherTest(unittest.TestCase):
    def check(self, machine, letters, tell, longest=5):
        """That the machine says of short words what is told, and is the least one that does."""
        self.assertIs(type(machine), Machine)
        self.assertEqual(machine.letters(), letters)
        self.assertEqual(machine, least(machine))
        for word in support.words_up_to(letters, longest if len(letters) < 3 else min(longest, 4)):
            self.assertIs(says(machine, word), tell(word))

    def pairs(self, seed, many):
        source = random.Random(seed)
        for _ in range(many):
            letters = "abcd"[:source.randint(1, 4)]
            yield support.drawn_machine(source, letters), support.drawn_machine(source, letters)

    def test_otherwise(self):
        for machine in support.drawn_machines(601, 80) + [NEVER, HUNDRED, EXCHANGES, counts(6, 6, 5)]:
            other = otherwise(machine)
            self.check(other, machine.letters(), lambda word: not support.plainly_says(machine, word))
            self.assertEqual(otherwise(other), least(machine))
        self.assertEqual(otherwise(NEVER), Machine("ab", ((0, 0),), (0,)))

    def test_both_and_either(self):
        for one, other in self.pairs(602, 120):
            self.check(both(one, other), one.letters(), lambda word: support.plainly_says(one, word)
                       and support.plainly_says(other, word))
            self.check(either(one, other), one.letters(), lambda word: support.plainly_says(one, word)
                       or support.plainly_says(other, word))
            self.assertEqual(both(one, other), both(other, one))
            self.assertEqual(both(one, one), least(one))
            self.assertEqual(either(one, one), least(one))
            self.assertEqual(otherwise(both(one, other)), either(otherwise(one), otherwise(other)))
            self.assertEqual(len(both(one, otherwise(one)).table()), 1)

    def test_longer_words(self):
        source = random.Random(603)
        for one, other in self.pairs(604, 60):
            for _ in range(5):
                word = support.drawn_word(source, one.letters(), 200)
                here, there = support.plainly_says(one, word), support.plainly_says(other, word)
                self.assertIs(says(both(one, other), word), here and there)
                self.assertIs(says(either(one, other), word), here or there)
                self.assertIs(says(backward(one), word), support.plainly_says(one, word[::-1]))

    def test_just_two_hundred_states_and_more(self):
        for one, other, many in ((ring(8), ring(25), 200), (ring(3), ring(67), 201), (ring(200), ring(2), 200),
                                 (counts(5, 5, 2), counts(1, 1, 1, 4), 200),
                                 (counts(5, 5, 2), counts(5, 5, 2, 4), 200),
                                 (counts(6, 6, 5), counts(1, 1, 1, 2), 360)):
            # What either says no of both say no of: so it has as many states.
            for tell in (both, lambda x, y: either(otherwise(x), otherwise(y))):
                if many == 200:
                    self.assertEqual(len(tell(one, other).table()), 200)
                else:
                    with self.assertRaises(TooMany) as caught:
                        tell(one, other)
                    self.assertEqual(caught.exception.most, 200)
        # Of more states, few are needed: the two may have many themselves.
        few = both(ring(150), otherwise(ring(150)))
        self.assertEqual(few.table(), ((0,),))
        self.assertEqual(len(both(ring(199), ring(1)).table()), 199)
        self.assertEqual(len(either(ring(300), Machine("a", ((0,),), (0,))).table()), 1)

    def test_two_great_machines(self):
        for tell in (both, either):
            with self.assertRaises(TooMany) as caught:
                tell(ring(60), ring(59))
            self.assertEqual(caught.exception.most, 200)

    def test_states_that_are_not_needed(self):
        # Not the states of a machine count, but those of the least one.
        many = machine_of_parts("a", tuple(((s + 1) % 600,) for s in range(600)), tuple(range(0, 600, 2)))
        self.assertEqual(both(many, many), ring(2))
        self.assertEqual(backward(many), ring(2))
        self.assertEqual(otherwise(many), Machine("a", ((1,), (0,)), (1,)))

    def test_other_letters(self):
        big = counts(6, 6, 5)
        for one, other in ((FIRST, Machine("a", ((0,),), ())), (FIRST, Machine("ac", ((0, 0),), ())),
                           (Machine("abc", ((0, 0, 0),), ()), big), (big, FIRST)):
            for tell in (both, either):
                with self.assertRaises(OtherLetters):
                    tell(one, other)

    def test_backward(self):
        for machine in support.drawn_machines(605, 120) + [NEVER, HUNDRED, EXCHANGES, RING, ENDS]:
            back = backward(machine)
            self.check(back, machine.letters(), lambda word: support.plainly_says(machine, word[::-1]))
            self.assertEqual(backward(back), least(machine))

    def test_backward_of_many_states(self):
        self.assertEqual(len(backward(JUST).table()), 200)
        self.assertEqual(backward(backward(JUST)), least(JUST))
        # The machine itself may have more than 200 states.
        self.assertEqual(len(least(turned(MORE)).table()), 201)
        self.assertEqual(backward(turned(MORE)), least(MORE))
        for machine in (MORE, ring(201)):
            with self.assertRaises(TooMany) as caught:
                backward(machine)
            self.assertEqual(caught.exception.most, 200)
        # The 60th letter is an a: from behind there would be more states than can be counted out.
        table = tuple((s + 1, s + 1) for s in range(59)) + ((60, 61), (60, 60), (61, 61))
        with self.assertRaises(TooMany):
            backward(machine_of_parts("ab", table, (60,)))

    def test_without(self):
        for machine in support.drawn_machines(606, 120) + [HUNDRED, EXCHANGES, counts(5, 5, 2, 4)]:
            letters = machine.letters()
            for out in lists_of_letters(letters)[:-1]:
                left = "".join(x for x in letters if x not in out)
                self.check(without(machine, out), left, lambda word: support.plainly_says(machine, word))
            self.assertEqual(without(machine, ""), least(machine))

    def test_without_wrong_letters(self):
        wrong = ["ab", "c", "ba", "aa", "abc", "A", ".", None, 0, True, ["a"], ("a",), {"a": 1}]
        for letters in wrong + support.odd_values():
            with self.assertRaises(NoLetters):
                without(FIRST, letters)
        with self.assertRaises(NoLetters):
            without(Machine("b", ((0,),), ()), "b")
        self.assertEqual(without(Machine("b", ((0,),), ()), ""), Machine("b", ((0,),), ()))

    def test_put(self):
        source = random.Random(607)
        for machine in support.drawn_machines(608, 120) + [HUNDRED, EXCHANGES]:
            letters = "".join(sorted(source.sample("abcdyz", source.randint(1, 4))))
            words = {letter: support.drawn_word(source, machine.letters(), source.choice([0, 3, 3, 200]))
                     for letter in source.sample(letters, len(letters))}
            self.check(put(machine, words), letters,
                       lambda word: support.plainly_says(machine, "".join(words[x] for x in word)), 4)
            same = {letter: letter for letter in machine.letters()}
            self.assertEqual(put(machine, same), least(machine))

    def test_put_edges(self):
        self.assertEqual(put(RING, {"z": ""}), Machine("z", ((0,),), (0,)))
        self.assertEqual(put(FIRST, {"q": "", "r": ""}), Machine("qr", ((0, 0),), ()))
        self.assertEqual(put(FIRST, {"d": "a", "c": "b", "b": "", "a": "ba"}).letters(), "abcd")
        self.assertEqual(put(FIRST, {"b": "a", "a": "b"}).table(), ((1, 2), (1, 1), (2, 2)))
        self.assertEqual(put(ring(300), {"x": "a" * 150}), Machine("x", ((1,), (0,)), (0,)))

    def test_put_wrong_words(self):
        wrong = [{}, {"a": "c"}, {"a": "a", "b": None}, {"a": 1}, {"A": "a"}, {"ab": "a"}, {"": "a"}, {1: "a"},
                 {None: "a"}, {("a",): "a"}, {letter: "a" for letter in "abcde"}, {"a": ["a"]}, {"a": "a."},
                 [("a", "a")], ("a",), "a", None, True, 0, {"a": "a", 0: "a"}]
        for words in wrong + support.odd_values():
            with self.assertRaises(NoWords):
                put(FIRST, words)

    def test_around(self):
        source = random.Random(609)
        for machine in support.drawn_machines(610, 120) + [HUNDRED, EXCHANGES, ring(300), counts(6, 6, 5)]:
            ahead, behind = (support.drawn_word(source, machine.letters(), source.choice([0, 3, 200]))
                             for _ in range(2))
            self.check(around(machine, ahead, behind), machine.letters(),
                       lambda word: support.plainly_says(machine, ahead + word + behind))
            self.assertEqual(around(machine, "", ""), least(machine))

    def test_around_wrong_words(self):
        odd = [v for v in support.odd_values() if not isinstance(v, str) or set(v) - set("ab")]
        for word in odd + ["c", "abc", "A", ["a"], ("a",), "a."]:
            for other in ("a", None):
                with self.assertRaises(NoWord):
                    around(FIRST, word, other)
            with self.assertRaises(NoWord):
                around(FIRST, "a", word)


class FactsTest(unittest.TestCase):
    def rank(self, machine):
        return KINDS.index(kind(machine))

    def test_kinds(self):
        source = random.Random(611)
        machines = support.drawn_machines(612, 200) + [HUNDRED, ENDS, RING, FIRST, ORDER, NEVER]
        seen = set()
        for machine in machines:
            most = self.rank(machine)
            self.assertEqual(self.rank(otherwise(machine)), most)
            self.assertEqual(self.rank(backward(machine)), most)
            for out in lists_of_letters(machine.letters())[:-1]:
                self.assertLessEqual(self.rank(without(machine, out)), most)
            for _ in range(2):
                words = {x: support.drawn_word(source, machine.letters(), 4)
                         for x in "pqrs"[:source.randint(1, 4)]}
                self.assertLessEqual(self.rank(put(machine, words)), most)
                ahead, behind = (support.drawn_word(source, machine.letters(), 4) for _ in range(2))
                self.assertLessEqual(self.rank(around(machine, ahead, behind)), most)
            seen.add(most)
        self.assertEqual(len(seen), 3)

    def test_kinds_of_pairs(self):
        source = random.Random(613)
        done = 0
        while done < 120:
            letters = "abc"[:source.randint(1, 3)]
            one, other = (support.drawn_machine(source, letters, source.randint(1, 4)) for _ in range(2))
            try:
                most = max(self.rank(one), self.rank(other))
                for tell in (both, either):
                    self.assertLessEqual(self.rank(tell(one, other)), most)
            except TooMany:
                continue
            done += 1

    def test_halves_and_accounts(self):
        for machine in support.drawn_machines(614, 80) + [HUNDRED, ENDS, RING, NEVER]:
            back, other = backward(machine), otherwise(machine)
            for ahead, behind in ((0, 2), (1, 3), (2, FAR), (5, 1), (FAR, FAR)):
                ones, others, many = halves(machine, ahead, behind)
                self.assertEqual(halves(back, behind, ahead), (others, ones, many))
                told = halves(other, ahead, behind)
                self.assertEqual(told[:2], (ones, others))
                self.assertLessEqual(abs(told[2] - many), 1)
            self.assertEqual(settled(back), settled(machine)[::-1])
            self.assertEqual(len(account(back)[0]), len(account(machine)[0]))

    def test_what_sayings_say(self):
        one, other = ("in", "aba"), ("count", "b", 3, 1)
        machines = machine_of("ab", one), machine_of("ab", other)
        self.assertEqual(both(*machines), machine_of("ab", ("and", one, other)))
        self.assertEqual(either(*machines), machine_of("ab", ("or", one, other)))
        self.assertEqual(otherwise(machines[0]), machine_of("ab", ("not", one)))
        self.assertEqual(backward(machine_of("abc", ("first", "b"))), machine_of("abc", ("last", "b")))
        self.assertEqual(backward(machine_of("ab", ("row", "abb"))), machine_of("ab", ("row", "bba")))
        self.assertEqual(without(machine_of("abc", ("least", "b", 3)), "c"), machine_of("ab", ("least", "b", 3)))
        self.assertEqual(around(machine_of("ab", ("least", "b", 5)), "bab", "ba"),
                         machine_of("ab", ("least", "b", 2)))
        self.assertEqual(put(machine_of("ab", ("least", "b", 5)), {"b": "abb", "c": "bbbbbb", "x": "aa"}),
                         machine_of("bcx", ("or", ("least", "b", 3), ("least", "c", 1))))


if __name__ == "__main__":
    unittest.main()
