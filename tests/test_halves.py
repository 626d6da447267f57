"""Point 26: two halves."""

import itertools
import random
import unittest

import support
from saidacross.answertables import rank
from saidacross.errors import NoNumber, NoRow, TooMany
from saidacross.halves import halves, heard_once, once, settled
from saidacross.machines import Machine, machine_of_parts
from saidacross.sayings import machine_of
from test_answertables import plain_rank
from test_blocks import FIRST, RING, THREE
from test_deeds import EXCHANGES, HUNDRED, counts
from test_gaps import ENDS
from test_pieces import CUBE

FAR = 10 ** 30
NEVER = Machine("ab", ((0, 0),), ())
# Machines by which there are 200 unlike strings of B, and one more.
JUST = machine_of_parts("ab", ((1, 2), (3, 1), (4, 4), (1, 5), (6, 0), (7, 3), (4, 8), (2, 6), (5, 3)),
                        (0, 1, 2, 3, 7))
MORE = machine_of_parts("ab", ((1, 2), (3, 4), (5, 5), (4, 6), (6, 0), (7, 0), (8, 8), (6, 9), (2, 7),
                               (7, 7)), (1, 3, 4, 5, 6))


def around(many):
    """A machine of one letter whose states stand in a ring."""
    return machine_of_parts("a", tuple(((state + 1) % many,) for state in range(many)), (0,))


def turned(machine):
    """The machine that says of each word what this one says of it from behind."""
    letters, table, accepts = machine.letters(), machine.table(), machine.accepts()
    start = tuple(int(state in accepts) for state in range(len(table)))
    numbers = {start: 0}
    order = [start]
    rows = []
    for column in order:
        row = []
        for at in range(len(letters)):
            to = tuple(column[table[state][at]] for state in range(len(table)))
            if to not in numbers:
                numbers[to] = len(order)
                order.append(to)
            row.append(numbers[to])
        rows.append(tuple(row))
    yes = tuple(at for at, column in enumerate(order) if column[0] == 1)
    return machine_of_parts(letters, tuple(rows), yes)


def strings(letters, many):
    return ["".join(signs) for signs in itertools.product(letters + ".", repeat=many)]


def letters_of(told):
    return told.replace(".", "")


def written_out(machine, ahead, behind):
    """A dict from the strings of A to the tuples of the answers to all strings of B."""
    words = [letters_of(other) for other in strings(machine.letters(), behind)]
    return {one: tuple(support.walk(machine, word, support.walk(machine, letters_of(one)))
                       in machine.accepts() for word in words)
            for one in strings(machine.letters(), ahead)}


def small_lengths(letters, most):
    """All pairs of lengths with at most so many strings each."""
    fine = [many for many in range(9) if (len(letters) + 1) ** many <= most]
    return [(ahead, behind) for ahead in fine for behind in fine]


class HalvesTest(unittest.TestCase):
    def check(self, machine, ahead, behind):
        rows = sorted(set(written_out(machine, ahead, behind).values()))
        told = halves(machine, ahead, behind)
        self.assertIsInstance(told, tuple)
        self.assertEqual(told, (len(rows), len(set(zip(*rows))), plain_rank(rows)))

    def test_all_strings_written_out(self):
        for machine in support.drawn_machines(311, 70) + [EXCHANGES, RING, FIRST, CUBE, NEVER]:
            for ahead, behind in small_lengths(machine.letters(), 130):
                self.check(machine, ahead, behind)

    def test_longer_strings(self):
        source = random.Random(312)
        for _ in range(30):
            machine = support.drawn_machine(source, "ab"[:source.randint(1, 2)])
            for ahead, behind in ((5, 5), (6, 1), (2, 6), (8, 0)):
                if (len(machine.letters()) + 1) ** max(ahead, behind) < 800:
                    self.check(machine, ahead, behind)

    def test_by_hand(self):
        self.assertEqual(halves(FIRST, 0, 0), (1, 1, 0))
        self.assertEqual(halves(RING, 0, 0), (1, 1, 1))
        self.assertEqual(halves(FIRST, 1, 1), (3, 2, 2))
        self.assertEqual(halves(FIRST, FAR, FAR), (3, 2, 2))
        self.assertEqual(halves(NEVER, 7, FAR), (1, 1, 0))
        self.assertEqual(halves(CUBE, 1, FAR), (2, 3, 2))
        self.assertEqual(halves(counts(6), 5, 5), (6, 6, 6))
        self.assertEqual(halves(counts(6), 2, 4), (3, 3, 2))
        self.assertEqual(halves(counts(6), 2, 5), (3, 4, 3))
        self.assertEqual(halves(around(200), FAR, 12), (13 + 1, 13, 13))
        self.assertEqual(halves(around(200), FAR, FAR), (200, 200, 200))

    def test_great_lengths_are_as_all_of_them(self):
        for machine in support.drawn_machines(313, 60) + [EXCHANGES, HUNDRED, ENDS]:
            m, k = settled(machine)
            top = halves(machine, FAR, FAR)
            for ahead, behind in ((m, k), (m + 1, k), (m, k + 3), (m + 200, k + 200), (FAR, k), (m, FAR)):
                self.assertEqual(halves(machine, ahead, behind), top)

    def test_read_from_behind(self):
        for machine in support.drawn_machines(320, 60):
            back = turned(machine)
            for ahead, behind in ((0, 2), (1, 3), (2, FAR), (5, 1), (FAR, FAR)):
                ones, others, many = halves(machine, ahead, behind)
                self.assertEqual(halves(back, behind, ahead), (others, ones, many))

    def test_unlike_strings_never_get_fewer(self):
        for machine in support.drawn_machines(314, 60):
            for at in range(4):
                told = halves(machine, at, 3)
                for more in (halves(machine, at + 1, 3), halves(machine, at, 4)):
                    self.assertTrue(all(one <= other for one, other in zip(told, more)))


class SettledTest(unittest.TestCase):
    def test_by_halves_at_the_lengths_around(self):
        seen = set()
        for machine in support.drawn_machines(315, 150) + [EXCHANGES, HUNDRED, ENDS, JUST, NEVER]:
            told = settled(machine)
            self.assertIsInstance(told, tuple)
            m, k = told
            top = halves(machine, FAR, FAR)
            self.assertEqual(halves(machine, m, k), top)
            if m > 0:
                self.assertNotEqual(halves(machine, m - 1, FAR), top)
            if k > 0:
                self.assertNotEqual(halves(machine, m, k - 1), top)
            seen.add(min(4, m) + 5 * min(4, k))
        self.assertGreater(len(seen), 8)

    def test_by_hand(self):
        self.assertEqual(settled(NEVER), (0, 0))
        self.assertEqual(settled(FIRST), (1, 1))
        self.assertEqual(settled(counts(6)), (5, 5))
        self.assertEqual(settled(around(200)), (199, 199))
        self.assertEqual(settled(machine_of("ab", ("least", "b", 5))), (5, 5))
        # The states of a machine that are not needed do not count.
        self.assertEqual(settled(Machine("a", ((1,), (2,), (0,)), (0, 1, 2))), (0, 0))


class OnceTest(unittest.TestCase):
    def test_all_strings_written_out(self):
        for machine in support.drawn_machines(316, 100) + [EXCHANGES, RING, FIRST, CUBE, NEVER]:
            for ahead, behind in small_lengths(machine.letters(), 30):
                rows = written_out(machine, ahead, behind)
                first = {}
                for one, row in rows.items():
                    word = letters_of(one)
                    if row not in first or support.in_order([word, first[row]])[0] == word:
                        first[row] = word
                order = support.in_order(first.values())
                for one, row in rows.items():
                    told = once(machine, ahead, behind, one)
                    self.assertEqual(told, order.index(first[row]))
                self.assertEqual(len(order), halves(machine, ahead, behind)[0])

    def test_what_is_heard(self):
        for machine in support.drawn_machines(317, 60) + [EXCHANGES, RING, FIRST, CUBE, NEVER]:
            for ahead, behind in small_lengths(machine.letters(), 20):
                for one in strings(machine.letters(), ahead):
                    number = once(machine, ahead, behind, one)
                    for other in strings(machine.letters(), behind):
                        told = heard_once(machine, ahead, behind, number, other)
                        self.assertIs(told, support.plainly_says(machine, letters_of(one + other)))

    def test_long_strings(self):
        source = random.Random(318)
        for machine in support.drawn_machines(319, 60) + [EXCHANGES, counts(5, 5, 2, 4), JUST]:
            for _ in range(4):
                ahead, behind = source.choice([3, 60, 400]), source.choice([2, 60, 400])
                one = "".join(source.choice(machine.letters() + "..") for _ in range(ahead))
                other = "".join(source.choice(machine.letters() + "..") for _ in range(behind))
                number = once(machine, ahead, behind, one)
                self.assertIs(heard_once(machine, ahead, behind, number, other),
                              support.plainly_says(machine, letters_of(one + other)))
                self.assertIs(heard_once(machine, ahead, behind, number, "." * behind),
                              support.plainly_says(machine, letters_of(one)))
                self.assertEqual(once(machine, ahead, behind, "." * ahead), 0)
                self.assertEqual(once(machine, ahead, FAR, one) >= number, True)

    def test_by_hand(self):
        self.assertEqual([once(FIRST, 2, 1, told) for told in ("..", ".a", "b.", "ab", "ba")],
                         [0, 1, 2, 1, 2])
        self.assertEqual([once(FIRST, 2, 0, told) for told in ("..", ".a", "b.", "ab", "ba")],
                         [0, 1, 0, 1, 0])
        self.assertEqual([heard_once(FIRST, 2, 1, number, "a") for number in range(3)],
                         [True, True, False])
        self.assertEqual([heard_once(FIRST, FAR, 1, number, ".") for number in range(3)],
                         [False, True, False])
        self.assertEqual(once(FIRST, 0, FAR, ""), 0)
        self.assertIs(heard_once(FIRST, 0, 0, 0, ""), False)


class WrongTest(unittest.TestCase):
    NO_LENGTHS = [-1, FAR + 1, True, False, None, "1", [1], (2,), {}]

    def each(self):
        return [halves, lambda m, one, other: once(m, one, other, None),
                lambda m, one, other: heard_once(m, one, other, None, None)]

    def test_lengths(self):
        odd = [v for v in support.odd_values() if type(v) is not int or not 0 <= v <= FAR]
        for call in self.each():
            for machine in (FIRST, MORE):
                for length in self.NO_LENGTHS + odd:
                    for other in (0, None):
                        with self.assertRaises(NoNumber):
                            call(machine, length, other)
                    with self.assertRaises(NoNumber):
                        call(machine, 3, length)

    def test_too_many(self):
        self.assertEqual(len(turned(MORE).table()), 201)
        for machine in (MORE, turned(MORE), around(201)):
            calls = [lambda call=call: call(machine, 0, 0) for call in self.each()]
            calls += [lambda: settled(machine), lambda: once(machine, 0, 0, ""),
                      lambda: heard_once(machine, 0, 0, 0, "")]
            for call in calls:
                with self.assertRaises(TooMany) as caught:
                    call()
                self.assertEqual(caught.exception.most, 200)

    def test_just_two_hundred(self):
        for machine in (JUST, around(200), counts(5, 5, 2, 4)):
            ones, others, _ = halves(machine, FAR, FAR)
            self.assertEqual(max(ones, others), 200)
            self.assertEqual(once(machine, 1, FAR, "a"), 1)
            self.assertIs(heard_once(machine, FAR, 1, 0, "a"), support.plainly_says(machine, "a"))
        self.assertEqual(halves(JUST, FAR, FAR), (9, 200, 9))
        self.assertEqual(halves(turned(JUST), FAR, FAR), (200, 9, 9))
        self.assertEqual(halves(counts(5, 5, 2, 4), FAR, FAR), (200, 200, 200))

    def test_states_that_are_not_needed_do_not_count(self):
        machine = machine_of_parts("a", tuple(((s + 1) % 400,) for s in range(400)),
                                   tuple(range(0, 400, 2)))
        self.assertEqual(halves(machine, FAR, FAR), (2, 2, 2))
        self.assertEqual(settled(machine), (1, 1))

    def test_strings(self):
        wrong = ["", "a", "abc", "ac", "ax", "a-", "A.", None, ["a", "b"], ("a", "b"), 7, True, "ab "]
        for told in wrong + support.odd_values():
            with self.assertRaises(NoRow):
                once(FIRST, 2, 3, told)
            with self.assertRaises(NoRow):
                heard_once(FIRST, 3, 2, 1, told)
        with self.assertRaises(NoRow):
            once(FIRST, FAR, 0, "a" * 400)
        with self.assertRaises(NoRow):
            once(FIRST, 0, 0, ".")

    def test_classes(self):
        for number in [-1, 3, 4, True, None, "0", [0], FAR]:
            for told in ("a", None, "ab"):
                with self.assertRaises(NoNumber):
                    heard_once(FIRST, 1, 1, number, told)
        for number in support.odd_values():
            if not (type(number) is int and 0 <= number <= 2):
                with self.assertRaises(NoNumber):
                    heard_once(FIRST, 1, 1, number, "a")
        # There are fewer classes of fewer places.
        with self.assertRaises(NoNumber):
            heard_once(FIRST, 0, 1, 1, "a")
        with self.assertRaises(NoNumber):
            heard_once(FIRST, 1, 0, 2, "")
        self.assertIs(heard_once(FIRST, 1, 0, 1, ""), True)

    def test_rank_of_classes(self):
        # Where two hundred are unlike, the table is greater than those of `rank`.
        told = halves(JUST, FAR, FAR)
        self.assertEqual(told[2], 9)
        self.assertEqual(rank([[int(n == at) for n in range(9)] for at in range(9)]), 9)


if __name__ == "__main__":
    unittest.main()
