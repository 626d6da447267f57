"""Point 8: deeds."""

import random
import unittest

import support
from saidacross.deeds import deed, deeds, done, steady
from saidacross.errors import NoDeed, NoWord, TooMany
from saidacross.machines import Machine, least
from saidacross.sayings import machine_of

ORDER = Machine("ab", ((1, 2), (1, 3), (2, 2), (3, 3)), (1, 3))
# All ways to exchange five states: 120 deeds.
EXCHANGES = Machine("ab", ((1, 1), (2, 0), (3, 2), (4, 3), (0, 4)), (0,))
HUNDRED = Machine("ab", ((0, 4), (3, 4), (1, 1), (4, 3), (2, 2)), (0, 2, 3))
HUNDRED_AND_ONE = Machine("ab", ((5, 5), (1, 3), (3, 1), (4, 5), (3, 5), (4, 2)), (3,))


def counts(*many):
    """A machine of the letters abcd that says yes if the counts of letters leave no rest."""
    saying = ("count", "a", many[0], 0)
    for letter, n in zip("bcd", many[1:]):
        saying = ("and", saying, ("count", letter, n, 0))
    return machine_of("abcd", saying)


class DeedTest(unittest.TestCase):
    def test_by_the_table_of_the_least_machine(self):
        source = random.Random(31)
        for _ in range(150):
            machine = support.drawn_machine(source)
            table = least(machine).table()
            for _ in range(8):
                word = support.drawn_word(source, machine.letters(), source.choice([3, 200]))
                ends = tuple(support.walk(least(machine), word, state)
                             for state in range(len(table)))
                self.assertEqual(deed(machine, word), ends)
                self.assertEqual(deed(machine, word), support.Plain(machine).deed(word))

    def test_same_deed_just_if_nothing_parts_them(self):
        source = random.Random(32)
        for _ in range(25):
            machine = support.drawn_machine(source, "ab", source.randint(2, 4))
            around = support.words_up_to("ab", 3)
            words = support.words_up_to("ab", 3)
            told = {word: support.plainly_says(machine, word)
                    for word in support.words_up_to("ab", 9)}
            for one in words:
                for other in words:
                    same = all(told[u + one + v] == told[u + other + v]
                               for u in around for v in around)
                    self.assertEqual(deed(machine, one) == deed(machine, other), same)

    def test_example(self):
        self.assertEqual(deed(ORDER, ""), (0, 1, 2))
        self.assertEqual(deed(ORDER, "a"), (1, 1, 2))
        self.assertEqual(deed(ORDER, "ba"), (2, 1, 2))

    def test_no_word(self):
        odd = [v for v in support.odd_values() if not isinstance(v, str) or set(v) - set("ab")]
        for word in odd + ["c", "abc", "A", ["a"], ("a",)]:
            with self.assertRaises(NoWord):
                deed(ORDER, word)
            with self.assertRaises(NoWord):
                steady(ORDER, word)

    def test_more_than_100_deeds_are_no_hindrance(self):
        self.assertEqual(deed(EXCHANGES, "ab"), support.Plain(EXCHANGES).deed("ab"))
        self.assertEqual(steady(EXCHANGES, "a"), 5)
        self.assertEqual(steady(EXCHANGES, "b"), 2)


class DeedsTest(unittest.TestCase):
    def test_by_definition(self):
        source = random.Random(33)
        told = 0
        for _ in range(250):
            machine = support.drawn_machine(source)
            plain = support.Plain(machine).deeds(100)
            if plain is None:
                with self.assertRaises(TooMany) as caught:
                    deeds(machine)
                self.assertEqual(caught.exception.most, 100)
            else:
                self.assertEqual(deeds(machine), plain)
                told += len(plain) > 10
        self.assertGreater(told, 30)

    def test_first_words_over_all_words(self):
        source = random.Random(34)
        for _ in range(60):
            machine = support.drawn_machine(source, source.choice(["a", "ab"]), 3)
            first = {}
            for word in support.words_up_to(machine.letters(), 9):
                first.setdefault(deed(machine, word), word)
            told = [pair for pair in deeds(machine) if len(pair[0]) <= 9]
            self.assertEqual(told, [(first[one], one) for one in first])

    def test_what_is_told(self):
        told = deeds(ORDER)
        self.assertIsInstance(told, list)
        self.assertEqual(told, [("", (0, 1, 2)), ("a", (1, 1, 2)), ("b", (2, 1, 2))])
        self.assertEqual(deeds(Machine("abc", ((0, 0, 0),), ())), [("", (0,))])

    def test_order_is_that_of_the_words(self):
        source = random.Random(35)
        for machine in support.drawn_machines(36, 80):
            words = [word for word, _ in deeds(machine)]
            self.assertEqual(words, support.in_order(words))
            self.assertEqual(words[0], "")
            every = [one for _, one in deeds(machine)]
            for _ in range(5):
                word = support.drawn_word(source, machine.letters(), 60)
                self.assertEqual(every.count(deed(machine, word)), 1)

    def test_exactly_100_deeds_and_more(self):
        self.assertEqual(len(deeds(counts(5, 5, 4))), 100)
        self.assertEqual(len(support.Plain(HUNDRED_AND_ONE).deeds(200)), 101)
        for machine in (HUNDRED_AND_ONE, counts(5, 5, 5), EXCHANGES, counts(6, 6, 5)):
            with self.assertRaises(TooMany) as caught:
                deeds(machine)
            self.assertEqual(caught.exception.most, 100)
        self.assertEqual(len(support.Plain(HUNDRED).deeds(200)), 100)
        self.assertEqual(deeds(HUNDRED), support.Plain(HUNDRED).deeds(100))


class DoneTest(unittest.TestCase):
    def test_one_then_the_other(self):
        source = random.Random(37)
        for _ in range(100):
            machine = support.drawn_machine(source)
            one = support.drawn_word(source, machine.letters(), 6)
            other = support.drawn_word(source, machine.letters(), 6)
            told = done(machine, deed(machine, one), deed(machine, other))
            self.assertEqual(told, deed(machine, one + other))

    def test_tuples_that_are_no_deed_of_a_word(self):
        self.assertEqual(done(ORDER, (1, 0, 2), (2, 2, 1)), (2, 2, 1))
        self.assertEqual(done(ORDER, (2, 2, 1), (1, 0, 2)), (2, 2, 0))
        self.assertEqual(done(ORDER, (0, 0, 0), (1, 2, 0)), (1, 1, 1))
        self.assertEqual(done(ORDER, (1, 2, 0), (0, 0, 0)), (0, 0, 0))
        self.assertEqual(done(Machine("a", ((0,),), ()), (0,), (0,)), (0,))

    def test_no_deed(self):
        good = (0, 1, 2)
        bad = [(), (0,), (0, 1), (0, 1, 2, 2), (0, 1, 3), (0, 1, -1), (3, 1, 2), (-1, 1, 2),
               (True, 1, 2), (0, True, 2), (0, 1, None), (0, "1", 2), (0, (1,), 2), [0, 1, 2],
               "012", {0: 0, 1: 1, 2: 2}, (0, 1, 10 ** 40), (0, False, 2), (0, 1, 2, 3)]
        for thing in bad + support.odd_values():
            for pair in ((thing, good), (good, thing), (thing, thing)):
                with self.assertRaises(NoDeed):
                    done(ORDER, *pair)

    def test_states_are_those_of_the_least_machine(self):
        self.assertEqual(len(ORDER.table()), 4)
        for thing in ((0, 1, 2, 3), (0, 0, 0, 0)):
            with self.assertRaises(NoDeed):
                done(ORDER, thing, thing)


class SteadyTest(unittest.TestCase):
    def by_definition(self, machine, word):
        times = 1
        while deed(machine, word * (2 * times)) != deed(machine, word * times):
            times += 1
        return times

    def test_by_definition(self):
        source = random.Random(38)
        seen = set()
        for _ in range(400):
            machine = support.drawn_machine(source)
            word = support.drawn_word(source, machine.letters(), 5)
            self.assertEqual(steady(machine, word), self.by_definition(machine, word))
            seen.add(steady(machine, word))
        self.assertGreaterEqual(seen, {1, 2, 3, 4, 5, 6})

    def test_by_hand(self):
        self.assertEqual(steady(ORDER, ""), 1)
        self.assertEqual(steady(ORDER, "a"), 1)
        two_and_three = Machine("ab", ((1, 2), (0, 1), (3, 0), (4, 3), (2, 4)), (0, 3))
        self.assertEqual(steady(two_and_three, "a"), 6)
        line = Machine("a", ((1,), (2,), (3,), (4,), (5,), (5,)), (5,))
        self.assertEqual(steady(line, "a"), 5)
        self.assertEqual(steady(line, "aa"), 3)
        # Three steps to a ring of two states: 4 is the first even number from 3 on.
        hook = Machine("a", ((1,), (2,), (3,), (4,), (3,)), (2, 3))
        self.assertEqual(steady(hook, "a"), 4)
        ahead = Machine("a", ((1,), (2,), (3,), (4,), (5,), (3,)), (2, 3))
        self.assertEqual(steady(ahead, "a"), 3)

    def test_many_states(self):
        machine = counts(6, 5, 4)
        self.assertEqual(steady(machine, "abc"), 60)
        self.assertEqual(steady(machine, "aabc"), 60)
        self.assertEqual(steady(machine, "d"), 1)


if __name__ == "__main__":
    unittest.main()
