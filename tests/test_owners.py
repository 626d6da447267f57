"""Point 27: letters that belong to hands."""

import random
import unittest

import support
from saidacross.deeds import deed, deeds
from saidacross.dealings import crossed, seen
from saidacross.errors import NoDealing, NoOwners, NoRow, NotOwned, TooMany
from saidacross.kinds import fixed, kind
from saidacross.machines import Machine, machine_of_parts
from saidacross.owners import own_talk, owned
from saidacross.sayings import machine_of
from test_blocks import FIRST, RING
from test_dealings import NO_DEALINGS, drawn_dealing, hands_of
from test_deeds import EXCHANGES, HUNDRED, HUNDRED_AND_ONE, counts
from test_pieces import CUBE

# Nothing but the order of a and b, and that of c and d, counts.
TWICE = machine_of("abcd", ("and", ("in", "ab"), ("not", ("in", "dc"))))
NO_OWNERS = [{}, {"a": "A"}, {"a": "A", "b": "B", "c": "A"}, {"a": "A", "c": "B"}, {"a": "A", "b": "E"},
             {"a": "A", "b": "a"}, {"a": "A", "b": ""}, {"a": "A", "b": "AB"}, {"a": "A", "b": 0},
             {"a": "A", "b": None}, {"a": "A", "b": ["B"]}, {"a": "A", "b": True}, [("a", "A"), ("b", "B")],
             ("a", "b"), "AB", None, True, 0, {"a": "A", ("b",): "B"}, {"a": "A", 0: "B"}]


def beside(source):
    """A machine of two pairs of letters, each with states of its own: the pairs may change places."""
    one, other = (support.drawn_machine(source, "ab", source.randint(1, 4)).table() for _ in range(2))
    wide = len(other)
    table = [(one[s][0] * wide + t, one[s][1] * wide + t, s * wide + other[t][0], s * wide + other[t][1])
             for s in range(len(one)) for t in range(wide)]
    accepts = tuple(s for s in range(len(table)) if source.random() < 0.5)
    return machine_of_parts("abcd", tuple(table), accepts)


def drawn_owners(source, letters):
    return {letter: source.choice("ABCD") for letter in letters}


def paired_owners(source):
    """Owners by which a and b belong to one hand, and c and d to another one, or the same."""
    one, other = source.choice("ABCD"), source.choice("ABCD")
    return {"a": one, "b": one, "c": other, "d": other}


def own_row(source, owners, dealing):
    """A row in which each letter stands at a place of its own hand."""
    row = ""
    for hand in dealing:
        row += source.choice([letter for letter in owners if owners[letter] == hand] + ["."])
    return row


def plainly_owned(machine, owners):
    letters = machine.letters()
    return all(deed(machine, x + y) == deed(machine, y + x)
               for x in letters for y in letters if owners[x] != owners[y])


def all_own_rows(owners, dealing):
    rows = [""]
    for hand in dealing:
        signs = [letter for letter in owners if owners[letter] == hand] + ["."]
        rows = [row + sign for row in rows for sign in signs]
    return rows


class OwnedTest(unittest.TestCase):
    def test_by_deeds(self):
        source = random.Random(551)
        told = {True: 0, False: 0}
        for machine in support.drawn_machines(552, 150) + [HUNDRED, EXCHANGES, RING, TWICE]:
            for _ in range(5):
                owners = drawn_owners(source, machine.letters())
                self.assertIs(owned(machine, owners), plainly_owned(machine, owners))
                told[owned(machine, owners)] += 1
        self.assertGreater(min(told.values()), 100)
        for _ in range(40):
            self.assertIs(owned(beside(source), paired_owners(source)), True)

    def test_edges(self):
        for machine in (FIRST, RING, EXCHANGES, HUNDRED_AND_ONE):
            for hand in "ABCD":
                self.assertIs(owned(machine, {"a": hand, "b": hand}), True)
            self.assertIs(owned(machine, {"b": "D", "a": "A"}), False)
        self.assertIs(owned(CUBE, {"a": "A", "b": "B"}), fixed(CUBE))
        # There may be any number of deeds.
        self.assertIs(owned(counts(6, 6, 5), {"a": "A", "b": "B", "c": "C", "d": "D"}), True)

    def test_fixed_machines_are_always_owned(self):
        source = random.Random(553)
        for machine in support.drawn_machines(554, 200):
            if fixed(machine):
                self.assertIs(owned(machine, drawn_owners(source, machine.letters())), True)

    def test_no_owners(self):
        for owners in NO_OWNERS + support.odd_values():
            with self.assertRaises(NoOwners):
                owned(FIRST, owners)
            for machine in (FIRST, EXCHANGES):
                with self.assertRaises(NoOwners):
                    own_talk(machine, owners, None, None)


class OwnTalkTest(unittest.TestCase):
    def check(self, machine, owners, dealing, rows, source):
        """The conditions for all these rows. Returns how many rows were crossed."""
        most = len(bin(len(deeds(machine)))) - 2
        sizes = set()
        spoken = {}
        alike = {}
        for row in rows:
            messages, answer = own_talk(machine, owners, dealing, row)
            self.assertIs(answer, support.plainly_says(machine, row.replace(".", "")))
            self.assertIs(type(messages), list)
            hands = [hand for hand, _ in messages]
            self.assertEqual(len(hands), len(set(hands)))
            self.assertLessEqual(set(hands), set(hands_of(dealing)))
            for hand, bits in messages:
                self.assertRegex(bits, r"\A[01]+\Z")
                self.assertLessEqual(len(bits), most)
                self.assertEqual(spoken.setdefault((hand, seen(dealing, row, hand)), bits), bits)
            sizes.add(tuple((hand, len(bits)) for hand, bits in messages))
            alike.setdefault(tuple(messages), []).append(row)
        self.assertEqual(len(sizes), 1)
        crossings = 0
        for messages, same in alike.items():
            answer = support.plainly_says(machine, same[0].replace(".", ""))
            for _ in range(min(6, len(same) - 1)):
                row = crossed(dealing, [source.choice(same) for _ in hands_of(dealing)])
                self.assertEqual(own_talk(machine, owners, dealing, row), (list(messages), answer))
                crossings += 1
        return crossings

    def test_all_rows_of_small_dealings(self):
        source = random.Random(555)
        total = 0
        for owners in ({"a": "A", "b": "A", "c": "B", "d": "B"}, {"a": "C", "b": "C", "c": "A", "d": "A"},
                       {letter: "B" for letter in "abcd"}):
            for dealing in ("ABAB", "AABBA", "ABCC", "CCAA", "BBB", "DABB", "A", "D"):
                total += self.check(TWICE, owners, dealing, all_own_rows(owners, dealing), source)
        self.assertGreater(total, 300)

    def test_machines_beside_one_another(self):
        source = random.Random(556)
        kinds = set()
        done = 0
        while done < 60:
            machine = beside(source)
            try:
                kinds.add(kind(machine))
            except TooMany:
                continue
            done += 1
            owners = paired_owners(source)
            dealing = drawn_dealing(source, 30)
            rows = [own_row(source, owners, dealing) for _ in range(40)]
            self.check(machine, owners, dealing, sorted(set(rows)), source)
        self.assertEqual(kinds, {"fixed", "digits", "length"})

    def test_drawn_machines(self):
        source = random.Random(557)
        for machine in support.drawn_machines(558, 120) + [HUNDRED, CUBE, counts(3, 2, 5)]:
            owners = drawn_owners(source, machine.letters())
            dealing = drawn_dealing(source, 20)
            rows = [own_row(source, owners, dealing) for _ in range(20)]
            if plainly_owned(machine, owners):
                self.check(machine, owners, dealing, sorted(set(rows)), source)
            else:
                for row in rows:
                    with self.assertRaises(NotOwned):
                        own_talk(machine, owners, dealing, row)

    def test_all_letters_of_one_hand(self):
        # The hand has no place in the dealing, or all of them, or some.
        for machine in (FIRST, RING, HUNDRED):
            owners = {"a": "C", "b": "C"}
            for dealing in ("AB", "D", "A" * 400):
                messages, answer = own_talk(machine, owners, dealing, "." * len(dealing))
                self.assertIs(answer, support.plainly_says(machine, ""))
            for dealing, row in (("C" * 4, "ab.a"), ("ACCBC", ".ba.b"), ("C", "b")):
                messages, answer = own_talk(machine, owners, dealing, row)
                self.assertIs(answer, support.plainly_says(machine, row.replace(".", "")))

    def test_long_rows(self):
        source = random.Random(559)
        for machine in (TWICE, beside(random.Random(560))):
            for hands in ("AB", "ABCD"):
                dealing = "".join(source.choice(hands) for _ in range(400))
                owners = {"a": "A", "b": "A", "c": "B", "d": "B"}
                rows = [own_row(source, owners, dealing) for _ in range(10)] + ["." * 400]
                self.check(machine, owners, dealing, rows, source)

    def test_nothing_to_say(self):
        self.assertEqual(own_talk(Machine("ab", ((0, 0),), (0,)), {"a": "A", "b": "B"}, "AB", "ab"), ([], True))
        self.assertEqual(own_talk(Machine("ab", ((0, 0),), ()), {"a": "A", "b": "B"}, "AB", ".."), ([], False))

    def test_what_is_raised(self):
        owners = {"a": "A", "b": "B"}
        for machine in (FIRST, EXCHANGES):
            for dealing in NO_DEALINGS + [v for v in support.odd_values() if v != "A"]:
                with self.assertRaises(NoDealing):
                    own_talk(machine, owners, dealing, None)
            rows = ["", "a", "abc", "ba", "b.", ".a", "aa", "bb", "ac", "a-", "A.", None, ["a", "b"], 7, True]
            for row in rows + support.odd_values():
                with self.assertRaises(NoRow):
                    own_talk(machine, owners, "AB", row)
        for machine in (EXCHANGES, HUNDRED_AND_ONE, counts(6, 6, 5)):
            mine = {letter: "A" if letter < "b" else "B" for letter in machine.letters()}
            with self.assertRaises(TooMany) as caught:
                own_talk(machine, mine, "AB", "ab")
            self.assertEqual(caught.exception.most, 100)
        for row in ("ab", "..", "a.", ".b"):
            with self.assertRaises(NotOwned):
                own_talk(FIRST, owners, "AB", row)


if __name__ == "__main__":
    unittest.main()
