"""Point 26: accounts."""

import random
import unittest
from fractions import Fraction
from math import gcd

import support
from saidacross.accounts import account, account_fault, account_value
from saidacross.errors import NoAccount, NoWord, TooMany
from saidacross.halves import halves, settled
from saidacross.machines import Machine, machine_of_parts, parting
from saidacross.sayings import machine_of
from test_blocks import FIRST, RING
from test_deeds import EXCHANGES, HUNDRED, ORDER, counts
from test_gaps import ENDS
from test_halves import FAR, JUST, MORE, NEVER, around, turned

ALWAYS = Machine("ab", ((0, 0),), (0,))
NOUGHT, ONE = (0, 1), (1, 1)
EMPTY = ((), {"a": (), "b": ()}, ())
# An account of a size of 1 whose value is 2 / 3 for the empty word; a halves it, b turns it.
LITTLE = (((2, 1),), {"a": (((1, 2),),), "b": (((-1, 1),),)}, ((1, 3),))


def told(pair):
    return Fraction(*pair)


def pair_of(fraction):
    return (fraction.numerator, fraction.denominator)


def plain_value(thing, word):
    """The value by the words of the document, as a fraction of Python's own."""
    first, steps, last = thing
    row = [told(part) for part in first]
    for letter in word:
        table = steps[letter]
        row = [sum(row[i] * told(table[i][j]) for i in range(len(row))) for j in range(len(row))]
    return sum((row[i] * told(last[i]) for i in range(len(row))), Fraction(0))


def solved(rows, wanted):
    """The multiples of the rows, which are independent, whose sum is wanted, or None."""
    table = [[Fraction(row[at]) for row in rows] + [Fraction(wanted[at])] for at in range(len(wanted))]
    at = 0
    for column in range(len(rows)):
        lead = [row for row in range(at, len(table)) if table[row][column] != 0]
        table[at], table[lead[0]] = table[lead[0]], table[at]
        table[at] = [number / table[at][column] for number in table[at]]
        for other in range(len(table)):
            if other != at and table[other][column] != 0:
                times = table[other][column]
                table[other] = [x - times * y for x, y in zip(table[other], table[at])]
        at += 1
    return None if any(row[-1] != 0 for row in table[at:]) else [row[-1] for row in table[:at]]


def plain_account(machine):
    """The account by the words of the document."""
    plain = support.Plain(machine)
    many = len(plain.table)
    # As many letters as this tell all sums of multiples apart.
    words = support.words_up_to(plain.letters, many - 1)
    answers = []
    for state in range(many):
        ends = [state] * len(words)
        for at, word in enumerate(words):
            for letter in word:
                ends[at] = plain.table[ends[at]][plain.letters.index(letter)]
        answers.append([int(end in plain.accepts) for end in ends])
    kept = []
    for state in range(many):
        if solved([answers[other] for other in kept], answers[state]) is None:
            kept.append(state)

    def parts(state):
        shares = solved([answers[other] for other in kept], answers[state])
        return tuple(pair_of(share) for share in shares)

    steps = {letter: tuple(parts(plain.table[state][at]) for state in kept)
             for at, letter in enumerate(plain.letters)}
    return (parts(0), steps, tuple(ONE if state in plain.accepts else NOUGHT for state in kept))


def drawn_fraction(source):
    number, divisor = source.randint(-3, 3), source.randint(1, 4)
    return pair_of(Fraction(number, divisor))


def drawn_account(source, letters, size):
    row = lambda: tuple(drawn_fraction(source) for _ in range(size))
    return (row(), {letter: tuple(row() for _ in range(size)) for letter in letters}, row())


def all_fractions(thing):
    first, steps, last = thing
    return [*first, *last, *[part for table in steps.values() for row in table for part in row]]


def spoiled(source, thing):
    """The account with one or two of its fractions changed."""
    first, steps, last = thing
    first, last = list(first), list(last)
    steps = {letter: [list(row) for row in table] for letter, table in steps.items()}
    for _ in range(source.randint(1, 2)):
        at, other = source.randrange(len(first)), source.randrange(len(first))
        place = source.choice(sorted(steps) + ["first", "last"])
        if place == "first":
            first[at] = drawn_fraction(source)
        elif place == "last":
            last[at] = drawn_fraction(source)
        else:
            steps[place][at][other] = drawn_fraction(source)
    tables = {letter: tuple(tuple(row) for row in table) for letter, table in steps.items()}
    return (tuple(first), tables, tuple(last))


def turned_account(source, thing):
    """The same account by other numbers, which are sums of multiples of the elder ones."""
    first, steps, last = thing
    size = len(first)
    first, last = [told(part) for part in first], [told(part) for part in last]
    steps = {letter: [[told(part) for part in row] for row in table]
             for letter, table in steps.items()}
    for _ in range(4):
        at, other = source.randrange(size), source.randrange(size)
        times = told(drawn_fraction(source))
        if at == other:
            continue
        # The number at `other` has `times` of the one at `at` added to it.
        first[other] += times * first[at]
        last[at] -= times * last[other]
        for table in steps.values():
            for row in table:
                row[other] += times * row[at]
            table[at] = [x - times * y for x, y in zip(table[at], table[other])]
    tables = {letter: tuple(tuple(pair_of(x) for x in row) for row in table)
              for letter, table in steps.items()}
    return (tuple(pair_of(x) for x in first), tables, tuple(pair_of(x) for x in last))


def doubled(thing):
    """An account of twice the size, whose second half is worth nothing at last."""
    first, steps, last = thing
    size = len(first)
    tables = {letter: tuple(row + row[::-1] for row in table) + tuple((NOUGHT,) * size + row for row in table)
              for letter, table in steps.items()}
    return (first + first, tables, last + (NOUGHT,) * size)


class AccountTest(unittest.TestCase):
    def test_by_the_words_of_the_document(self):
        sizes = set()
        for machine in support.drawn_machines(501, 150) + [FIRST, RING, ORDER, HUNDRED, EXCHANGES, ALWAYS]:
            thing = account(machine)
            self.assertEqual(thing, plain_account(machine))
            self.assertEqual([type(part) for part in thing], [tuple, dict, tuple])
            sizes.add(len(thing[0]))
        self.assertLessEqual({1, 2, 3, 4, 5}, sizes)

    def test_states_that_are_sums_of_others(self):
        smaller = 0
        for machine in support.drawn_machines(502, 200):
            thing = account(machine)
            smaller += len(thing[0]) < len(support.Plain(machine).table)
            for number, divisor in all_fractions(thing):
                self.assertGreaterEqual(divisor, 1)
                self.assertEqual(gcd(number, divisor), 1)
        self.assertGreater(smaller, 5)

    def test_values(self):
        for machine in support.drawn_machines(503, 80) + [FIRST, RING, HUNDRED, EXCHANGES, NEVER, ALWAYS]:
            thing = account(machine)
            for word in support.words_up_to(machine.letters(), 4):
                self.assertEqual(account_value(thing, word), (int(support.plainly_says(machine, word)), 1))

    def test_long_words(self):
        source = random.Random(504)
        for machine in support.drawn_machines(505, 60) + [HUNDRED, EXCHANGES, counts(5, 5, 2, 4)]:
            thing = account(machine)
            for many in (40, 200, 300):
                word = "".join(source.choice(machine.letters()) for _ in range(many))
                self.assertEqual(account_value(thing, word), (int(support.plainly_says(machine, word)), 1))

    def test_size_is_the_rank_of_great_halves(self):
        for machine in support.drawn_machines(506, 150) + [EXCHANGES, HUNDRED, ENDS, JUST, turned(JUST), NEVER]:
            m, k = settled(machine)
            size = len(account(machine)[0])
            for ahead, behind in ((m, k), (m + 1, k + 7), (FAR, k), (FAR, FAR)):
                self.assertEqual(halves(machine, ahead, behind)[2], size)

    def test_by_hand(self):
        self.assertEqual(account(NEVER), EMPTY)
        self.assertEqual(account(ALWAYS), ((ONE,), {"a": ((ONE,),), "b": ((ONE,),)}, (ONE,)))
        self.assertEqual(account(Machine("z", ((0,),), ())), ((), {"z": ()}, ()))
        # The third state says no whatever comes: it is a sum of none.
        self.assertEqual(account(FIRST), ((ONE, NOUGHT), {"a": ((NOUGHT, ONE), (NOUGHT, ONE)),
                                                         "b": ((NOUGHT, NOUGHT), (NOUGHT, ONE))},
                                          (NOUGHT, ONE)))
        # States that are not needed are not kept.
        self.assertEqual(account(Machine("a", ((1,), (2,), (0,)), (0, 1, 2))),
                         ((ONE,), {"a": ((ONE,),)}, (ONE,)))

    def test_a_state_of_several_parts(self):
        # The last state says yes where the first one or the third one does, but not the second.
        machine = Machine("a", ((1,), (2,), (3,), (0,)), (0, 1))
        self.assertEqual(account(machine), (
            (ONE, NOUGHT, NOUGHT), {"a": ((NOUGHT, ONE, NOUGHT), (NOUGHT, NOUGHT, ONE), (ONE, (-1, 1), ONE))},
            (ONE, ONE, NOUGHT)))

    def test_fractions_that_are_no_integers(self):
        # Of the letters a, b and c the states 1 to 3 take two each, and the state 4 all of them.
        machine = machine_of_parts("abcd", ((1, 2, 3, 4), (5, 5, 6, 6), (5, 6, 5, 6), (6, 5, 5, 6),
                                            (5, 5, 5, 6), (6, 6, 6, 6), (6, 6, 6, 6)), (5,))
        half = (1, 2)
        first, steps, last = account(machine)
        self.assertEqual(first, (ONE,) + (NOUGHT,) * 4)
        self.assertEqual(steps["d"][0], (NOUGHT, half, half, half, NOUGHT))
        self.assertEqual(steps["d"][1:], ((NOUGHT,) * 5,) * 4)
        self.assertEqual(last, (NOUGHT,) * 4 + (ONE,))
        self.assertIsNone(account_fault(machine, (first, steps, last)))
        self.assertEqual(account_value((first, steps, last), "dc"), ONE)
        source = random.Random(507)
        found = 0
        for _ in range(100):
            # Each letter turns a ring of states.
            many, turns = source.choice([4, 5, 6]), source.sample([1, 2, 3], 2)
            table = tuple(tuple((state + turn) % many for turn in turns) for state in range(many))
            accepts = tuple(state for state in range(many) if source.random() < 0.5)
            machine = Machine("ab", table, accepts)
            thing = account(machine)
            found += any(part[0] < 0 for part in all_fractions(thing))
            self.assertEqual(thing, plain_account(machine))
            self.assertIsNone(account_fault(machine, thing))
        self.assertGreater(found, 8)

    def test_too_many(self):
        for machine in (MORE, turned(MORE), around(201)):
            with self.assertRaises(TooMany) as caught:
                account(machine)
            self.assertEqual(caught.exception.most, 200)
        for machine, size in ((JUST, 9), (turned(JUST), 9), (around(200), 200), (counts(5, 5, 2, 4), 200)):
            self.assertEqual(len(account(machine)[0]), size)


class ValueTest(unittest.TestCase):
    def test_by_the_words_of_the_document(self):
        source = random.Random(511)
        for _ in range(150):
            letters = "".join(sorted(source.sample("abcxyz", source.randint(1, 4))))
            thing = drawn_account(source, letters, source.randint(0, 4))
            for _ in range(6):
                word = support.drawn_word(source, letters, 9)
                self.assertEqual(account_value(thing, word), pair_of(plain_value(thing, word)))

    def test_by_hand(self):
        values = [account_value(LITTLE, word) for word in ("", "a", "b", "ab", "bab", "aaaa")]
        self.assertEqual(values, [(2, 3), (1, 3), (-2, 3), (-1, 3), (1, 3), (1, 24)])
        self.assertEqual(account_value(LITTLE, "a" * 200), (1, 3 * 2 ** 199))
        for word in ("", "a", "ba" * 100):
            self.assertEqual(account_value(EMPTY, word), NOUGHT)

    def test_long_numbers(self):
        top = 10 ** 30 - 1
        source = random.Random(512)
        long = lambda: pair_of(Fraction(source.randint(-top, top), source.randint(10 ** 29, top)))
        row = lambda: tuple(long() for _ in range(3))
        thing = ((long(),), {"q": ((long(),),)}, (long(),))
        for word in ("qqq", "q" * 200):
            self.assertEqual(account_value(thing, word), pair_of(plain_value(thing, word)))
        # A table with unlike divisors.
        thing = (row(), {"a": tuple(row() for _ in range(3))}, row())
        self.assertEqual(account_value(thing, "aaa"), pair_of(plain_value(thing, "aaa")))

    def test_no_account(self):
        for thing in no_accounts() + support.odd_values():
            for word in ("a", None):
                with self.assertRaises(NoAccount):
                    account_value(thing, word)

    def test_no_word(self):
        odd = [v for v in support.odd_values() if not isinstance(v, str) or set(v) - set("ab")]
        for thing in (LITTLE, EMPTY):
            for word in odd + ["c", "abc", "A", ["a"], ("a",), "a.", 0]:
                with self.assertRaises(NoWord):
                    account_value(thing, word)
        with self.assertRaises(NoWord):
            account_value(((), {"a": (), "c": ()}, ()), "b")

    def test_sizes(self):
        for size in (199, 200):
            thing = diagonal(size)
            self.assertEqual(account_value(thing, "a" * 3), (8 * size, 1))
        with self.assertRaises(NoAccount):
            account_value(diagonal(201), "a")


def diagonal(size):
    """An account of this size by which each letter doubles the value."""
    table = tuple(tuple((2, 1) if at == other else NOUGHT for other in range(size)) for at in range(size))
    return ((ONE,) * size, {"a": table}, (ONE,) * size)


def no_accounts():
    """Values that are nearly accounts for the letters a and b."""
    first, steps, last = LITTLE
    with_first = [(part, steps, last) for part in (
        ((2, 2),), ((0, 2),), ((1, 0),), ((1, -1),), ((-2, -3),), ((True, 1),), ((1, True),), ((1,),),
        ((1, 1, 1),), ([1, 1],), [(1, 1)], (1,), ((1, 1), (1, 1)), (), None, ("11",), (("1", 1),), (None,),
        (((1, 1), 1),), ((10 ** 40, 10),))]
    with_last = [(first, steps, part[0]) for part in with_first]
    tables = [((2, 4),), (((0, 3),),), [((1, 2),)], ([(1, 2)],), ((1, 2),), (((1, 2), (1, 2)),), ((),), (),
              (((1, 2),), ((1, 2),)), None, ((((1, False)),),), (((1, 0),),), "a", {"a": 1}]
    with_steps = [(first, {"a": steps["a"], "b": table}, last) for table in tables]
    b = steps["b"]
    keys = [{}, {"a": b, 1: b}, {"a": b, "B": b}, {"a": b, "ab": b}, {"a": b, "": b}, {"a": b, None: b},
            {letter: b for letter in "abcde"}, {"a": b, ("b",): b}, [("a", b)], ("a", "b"), None, "ab"]
    with_keys = [(first, part, last) for part in keys]
    return with_first + with_last + with_steps + with_keys + [
        list(LITTLE), LITTLE[:2], LITTLE + ((),), (first, last, steps), ((), {}, ()), ((), {"a": ((),)}, ())]


class FaultTest(unittest.TestCase):
    def search(self, machine, thing, longest):
        """The first word of a search of all words of at most so many letters."""
        for word in support.words_up_to(machine.letters(), longest):
            if plain_value(thing, word) != int(support.plainly_says(machine, word)):
                return ("word", word)
        return None

    def test_right_ones(self):
        source = random.Random(521)
        for machine in support.drawn_machines(522, 60) + [FIRST, RING, HUNDRED, EXCHANGES, ALWAYS]:
            thing = account(machine)
            self.assertIsNone(account_fault(machine, thing))
            other = turned_account(source, thing)
            self.assertIsNone(account_fault(machine, other))
            self.assertIsNone(account_fault(machine, doubled(other)))
        self.assertIsNone(account_fault(NEVER, EMPTY))
        self.assertIsNone(account_fault(NEVER, (((1, 3),), {"a": (((2, 1),),), "b": (((0, 1),),)}, ((0, 1),))))

    def test_spoiled_ones(self):
        source = random.Random(523)
        longs = 0
        for machine in [m for m in support.drawn_machines(524, 150) if len(m.letters()) < 3]:
            thing = account(machine)
            states = len(support.Plain(machine).table)
            longest = 7 if len(machine.letters()) == 2 else 11
            if len(thing[0]) == 0 or states + len(thing[0]) > longest + 1:
                continue
            for part in (thing, turned_account(source, thing), doubled(thing)):
                if states + len(part[0]) <= longest + 1:
                    wrong = spoiled(source, part)
                    fault = account_fault(machine, wrong)
                    # A word that is not told rightly has fewer letters than all these numbers.
                    self.assertEqual(fault, self.search(machine, wrong, longest))
                    longs += fault is not None and len(fault[1]) > 1
        self.assertGreater(longs, 30)

    def test_spoiled_ones_of_more_letters(self):
        source = random.Random(525)
        for machine in [m for m in support.drawn_machines(526, 80) if len(m.letters()) > 2]:
            thing = account(machine)
            wrong = spoiled(source, thing)
            fault = account_fault(machine, wrong)
            word = "" if fault is None else fault[1]
            if len(word) < 5:
                short = self.search(machine, wrong, min(4, len(word) or 4))
                self.assertEqual(fault, short)
            self.assertEqual(fault is None or plain_value(wrong, word) != int(support.plainly_says(machine, word)),
                             True)

    def test_accounts_of_other_machines(self):
        source = random.Random(527)
        for _ in range(120):
            letters = "abc"[:source.randint(1, 3)]
            one, other = (support.drawn_machine(source, letters) for _ in range(2))
            word = parting(one, other)
            self.assertEqual(account_fault(one, account(other)), word if word is None else ("word", word))
            self.assertIsNone(account_fault(one, account(one)))

    def test_far_words(self):
        # The states stand in a ring, and only the last one of the account is spoiled.
        for many in (6, 40, 200):
            first, steps, last = account(around(many))
            wrong = (first, steps, last[:-1] + ((1, 7),))
            self.assertEqual(account_fault(around(many), wrong), ("word", "a" * (many - 1)))
            row = (NOUGHT,) * (many - 1) + ((2, 3),)
            wrong = (first, {"a": steps["a"][:-1] + (row,)}, last)
            self.assertEqual(account_fault(around(many), wrong), ("word", "a" * many))
        # What is spoiled is only seen where it comes for the second time.
        wrong = ((ONE, ONE), {"a": ((ONE, NOUGHT), (NOUGHT, (-1, 1)))}, ((1, 2), (1, 2)))
        self.assertIsNone(account_fault(around(2), wrong))
        self.assertEqual(account_fault(around(4), wrong), ("word", "aa"))

    def test_great_machines(self):
        machine = counts(5, 5, 2, 4)
        thing = account(machine)
        self.assertIsNone(account_fault(machine, thing))
        self.assertEqual(account_fault(machine, (thing[0], thing[1], thing[2][:-1] + (ONE,))),
                         ("word", "aaaabbbbcddd"))
        # There are more than 200 states, and more than 200 columns.
        for big in (around(300), MORE, turned(MORE)):
            letters = big.letters()
            size = 10 if len(letters) == 2 else 200
            zeros = ((NOUGHT,) * size, {x: ((NOUGHT,) * size,) * size for x in letters}, (NOUGHT,) * size)
            self.assertEqual(account_fault(big, zeros),
                             ("word", min((w for w in support.words_up_to(letters, 3)
                                           if support.plainly_says(big, w)), key=len)))
        ring = machine_of_parts("a", tuple(((s + 1) % 300,) for s in range(300)), tuple(range(0, 300, 2)))
        self.assertIsNone(account_fault(ring, account(around(2))))

    def test_form(self):
        for thing in no_accounts() + support.odd_values():
            self.assertEqual(account_fault(FIRST, thing), ("form",))
        # The letters must be those of the machine.
        for machine in (Machine("a", ((0,),), ()), Machine("abc", ((0, 0, 0),), ()), Machine("ac", ((0, 0),), ())):
            self.assertEqual(account_fault(machine, EMPTY), ("form",))
            self.assertEqual(account_fault(machine, account(FIRST)), ("form",))
        self.assertEqual(account_fault(around(6), diagonal(201)), ("form",))
        self.assertEqual(account_fault(around(6), diagonal(200)), ("word", ""))


if __name__ == "__main__":
    unittest.main()
