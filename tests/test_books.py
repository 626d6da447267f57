"""Point 12: books."""

import copy
import random
import unittest

import support
from saidacross.blocks import block, block_fault
from saidacross.books import book, book_fault
from saidacross.errors import TooMany
from saidacross.machines import Machine
from saidacross.sayings import machine_of
from test_blocks import FIRST, RING, SIGNS, THREE
from test_deeds import EXCHANGES, HUNDRED, HUNDRED_AND_ONE, counts

FIVE = machine_of("ab", ("least", "a", 5))
# Letters that may change places, and each needs another depth.
STEPS = machine_of("abc", ("and", ("least", "a", 3), ("least", "c", 2)))


def any_pages(machine, depth=100):
    """Pages of the right form, with the first full word that is steady, in the core if it can."""
    plain = support.Plain(machine)
    pages = {}
    for lot in support.lots(machine.letters()):
        inside = plain.steady_core(lot)
        pages[lot] = (depth, [w for w, one in plain.full_words(lot) if one in inside][0])
    return pages


class BookTest(unittest.TestCase):
    def test_by_definition(self):
        seen = {True: 0, False: 0}
        depths = set()
        for machine in support.drawn_machines(71, 200, 35):
            told = book(machine)
            self.assertEqual(told, support.Plain(machine).book())
            seen[told is not None] += 1
            depths |= {depth for depth, _ in (told or {}).values()}
        self.assertGreater(min(seen.values()), 30)
        self.assertGreaterEqual(depths, {1, 2, 3})

    def test_every_machine_of_two_letters_with_up_to_three_states(self):
        for states in (1, 2, 3):
            for machine in support.every_machine("ab", states):
                pages = book(machine)
                five = block(machine)
                self.assertNotEqual(pages is None, five is None)
                if pages is None:
                    self.assertIsNone(block_fault(machine, five))
                else:
                    self.assertIsNone(book_fault(machine, pages))

    def test_by_definition_for_small_machines(self):
        for machine in support.every_machine("ab", 2):
            self.assertEqual(book(machine), support.Plain(machine).book())

    def test_drawn(self):
        for machine in support.drawn_machines(72, 200):
            pages = book(machine)
            self.assertNotEqual(pages is None, block(machine) is None)
            if pages is not None:
                self.assertIsInstance(pages, dict)
                self.assertEqual(set(pages), set(support.lots(machine.letters())))
                self.assertIsNone(book_fault(machine, pages))

    def test_by_hand(self):
        self.assertEqual(book(FIRST), {"a": (1, "a"), "b": (1, "b"), "ab": (1, "ab")})
        self.assertEqual(book(FIVE), {"a": (5, "aaaaa"), "b": (1, "b"), "ab": (5, "aaaaab")})
        self.assertEqual(book(Machine("ab", ((1, 0), (0, 1)), (0,))),
                         {"a": (1, "aa"), "b": (1, "b"), "ab": (1, "aab")})
        self.assertEqual(book(Machine("z", ((0,),), ())), {"z": (1, "z")})
        self.assertEqual(book(STEPS), {
            "a": (3, "aaa"), "b": (1, "b"), "c": (2, "cc"), "ab": (3, "aaab"),
            "ac": (3, "aaacc"), "bc": (2, "bcc"), "abc": (3, "aaabcc")})
        for machine in (RING, THREE, SIGNS):
            self.assertIsNone(book(machine))

    def test_words_are_first_over_all_words(self):
        for machine in support.drawn_machines(73, 60, 20):
            plain = support.Plain(machine)
            for lot, (_, word) in (book(machine) or {}).items():
                if len(word) <= 6:
                    fits = [w for w in support.words_up_to(lot, len(word)) if set(w) == set(lot)
                            and plain.deed(w) in plain.steady_core(lot)]
                    self.assertEqual(fits[0], word)

    def test_100_deeds(self):
        self.assertEqual(len(book(counts(5, 5, 4))), 15)
        self.assertIsNone(book(HUNDRED))

    def test_a_new_dict(self):
        told = book(FIRST)
        told["a"] = None
        del told["b"]
        self.assertEqual(book(FIRST), {"a": (1, "a"), "b": (1, "b"), "ab": (1, "ab")})

    def test_too_many(self):
        for machine in (EXCHANGES, HUNDRED_AND_ONE, counts(6, 6, 5)):
            with self.assertRaises(TooMany) as caught:
                book(machine)
            self.assertEqual(caught.exception.most, 100)
            for thing in (None, {}, (), {"a": (1, "a"), "b": (1, "b"), "ab": (1, "ab")}):
                with self.assertRaises(TooMany) as caught:
                    book_fault(machine, thing)
                self.assertEqual(caught.exception.most, 100)


class FormTest(unittest.TestCase):
    GOOD = {"a": (1, "a"), "b": (1, "b"), "ab": (1, "ab")}

    def form(self, thing, machine=FIRST):
        self.assertEqual(book_fault(machine, thing), ("form",))

    def changed(self, lot, page):
        pages = dict(self.GOOD)
        pages[lot] = page
        return pages

    def test_the_good_one(self):
        self.assertIsNone(book_fault(FIRST, self.GOOD))

    def test_values_of_other_kinds(self):
        for thing in support.odd_values() + [[self.GOOD], (self.GOOD,), list(self.GOOD.items())]:
            self.form(thing)
            self.form(thing, RING)

    def test_lots_too_few_or_too_many(self):
        for lot in self.GOOD:
            few = dict(self.GOOD)
            del few[lot]
            self.form(few)
            for other in ("c", "ba", "aa", "", "abc", 0, None, True, ("a",), "A"):
                self.form({**few, other: (1, "a")})
                self.form({**self.GOOD, other: (1, "a")})
        self.form({})

    def test_pages_of_other_kinds(self):
        bad = [[1, "a"], (1,), (1, "a", "a"), (), "1a", None, True, 1, ("a", 1), ("1", "a"),
               (True, "a"), (None, "a"), ([1], "a"), ((1,), "a"), (1, None), (1, 1), (1, ["a"]),
               (1, ("a",)), (1, True), {1: "a"}, {}]
        for lot, word in (("a", "a"), ("b", "b"), ("ab", "ab")):
            for page in bad + support.odd_values():
                if page != (1, "a") or lot != "a":
                    self.form(self.changed(lot, page))
            for depth in (0, -1, 101, True, False, None, "1", 10 ** 40, (1,), [1]):
                self.form(self.changed(lot, (depth, word)))
            for depth in support.odd_values():
                if depth not in (1, 2, 7) or isinstance(depth, bool):
                    self.form(self.changed(lot, (depth, word)))

    def test_depths(self):
        for lot, word in (("a", "a"), ("b", "b"), ("ab", "ab")):
            for depth in (1, 2, 99, 100):
                self.assertIsNone(book_fault(FIRST, self.changed(lot, (depth, word))))

    def test_words_that_are_not_full(self):
        cases = {"a": ["", "b", "ab", "aab", "c", "A"], "b": ["", "a", "ba", "c"],
                 "ab": ["", "a", "b", "aa", "bb", "c", "abc", "a b"]}
        for lot in cases:
            for word in cases[lot] + [v for v in support.odd_values()]:
                self.form(self.changed(lot, (1, word)))
        self.assertIsNone(book_fault(FIRST, self.changed("ab", (1, "abba"))))

    def test_form_comes_first(self):
        self.form({"a": (1, "a"), "b": (1, "bb"), "ab": (101, "ab")}, RING)
        self.form({"a": (1, "a"), "b": (1, "b")}, RING)

    def test_order_of_the_keys_means_nothing(self):
        for lots in (["ab", "b", "a"], ["b", "ab", "a"], ["b", "a", "ab"]):
            self.assertIsNone(book_fault(FIRST, {lot: self.GOOD[lot] for lot in lots}))
        source = random.Random(74)
        for machine in support.drawn_machines(75, 30, 30):
            pages = any_pages(machine, 1)
            lots = list(pages)
            told = book_fault(machine, pages)
            source.shuffle(lots)
            self.assertEqual(book_fault(machine, {lot: pages[lot] for lot in lots}), told)

    def test_what_is_judged_is_not_changed(self):
        for thing in (dict(self.GOOD), {"a": [1]}, {"ab": (1, "ab"), "a": (9, "a"), "b": (1, "b")}):
            keep = copy.deepcopy(thing)
            book_fault(FIRST, thing)
            self.assertEqual(list(thing.items()), list(keep.items()))


class FaultTest(unittest.TestCase):
    def test_core(self):
        pages = book(FIVE)
        for lot, word in (("a", "aaaa"), ("a", "a"), ("ab", "ab"), ("ab", "baaaa")):
            self.assertEqual(book_fault(FIVE, {**pages, lot: (5, word)}), ("core", lot))
        # Steady, but not in the core; in the core, but not steady.
        rows = machine_of("ab", ("row", "aa"))
        pages = any_pages(rows)
        self.assertEqual(book_fault(rows, {**pages, "ab": (100, "ab")}), ("core", "ab"))
        even = Machine("ab", ((1, 0), (0, 1)), (0,))
        self.assertEqual(book_fault(even, {**book(even), "a": (1, "a")}), ("core", "a"))
        self.assertIsNone(book_fault(even, {**book(even), "ab": (1, "aba")}))
        self.assertEqual(book_fault(even, {**book(even), "ab": (1, "ba")}), ("core", "ab"))

    def test_depth(self):
        for lot, depth in (("a", 5), ("ab", 5)):
            pages = book(FIVE)
            for least in range(1, depth):
                pages[lot] = (least, pages[lot][1])
                self.assertEqual(book_fault(FIVE, pages), ("depth", lot))
            for more in (depth, depth + 1, 100):
                pages[lot] = (more, pages[lot][1])
                self.assertIsNone(book_fault(FIVE, pages))

    def test_no_depth_will_do(self):
        for depth in (1, 50, 100):
            pages = any_pages(RING, depth)
            pages["a"], pages["b"] = (100, "aaa"), (100, "bbb")
            self.assertEqual(book_fault(RING, pages), ("depth", "ab"))

    def test_a_depth_less_than_the_least(self):
        seen = 0
        for machine in support.drawn_machines(76, 150, 40):
            pages = book(machine) or {}
            for lot in pages:
                depth, word = pages[lot]
                self.assertIsNone(book_fault(machine, {**pages, lot: (depth + 1, word)}))
                if depth > 1:
                    less = {**pages, lot: (depth - 1, word)}
                    self.assertEqual(book_fault(machine, less), ("depth", lot))
                    seen += 1
        self.assertGreater(seen, 20)

    def test_ends(self):
        self.assertEqual(book_fault(SIGNS, any_pages(SIGNS)), ("ends", "ab", "a", "bb"))
        self.assertEqual(support.Plain(SIGNS).ends_fault("ab"), ("ends", "ab", "a", "bb"))

    def test_sums(self):
        self.assertEqual(book_fault(THREE, any_pages(THREE)), ("sums", "ab", "a", "b"))

    def test_first_lot_in_the_order_of_strings(self):
        pages = book(STEPS)
        spoiled = {"abc": ("core", (3, "abc")), "ab": ("depth", (2, "aaab")),
                   "bc": ("core", (2, "bc")), "c": ("core", (2, "c")), "a": ("depth", (1, "aaa")),
                   "ac": ("depth", (1, "aaacc"))}
        order = ["a", "c", "ab", "ac", "bc", "abc"]
        for at, lot in enumerate(order):
            for also in order[at:]:
                thing = {**pages, also: spoiled[also][1], lot: spoiled[lot][1]}
                self.assertEqual(book_fault(STEPS, thing), (spoiled[lot][0], lot))

    def test_first_fault_of_a_lot(self):
        pages = any_pages(SIGNS, 1)
        self.assertEqual(book_fault(SIGNS, {**pages, "ab": (1, "abb")}), ("core", "ab"))
        self.assertEqual(book_fault(FIVE, {**book(FIVE), "a": (1, "aa")}), ("core", "a"))

    def test_by_definition(self):
        source = random.Random(77)
        seen = {}
        for machine in support.drawn_machines(78, 260, 40):
            plain = support.Plain(machine)
            for _ in range(3):
                pages = book(machine) or any_pages(machine)
                for lot in pages:
                    if source.random() < 0.15:
                        word = support.drawn_word(source, lot, 4) + lot
                        pages[lot] = (source.randint(1, 4), word)
                told = book_fault(machine, pages)
                self.assertEqual(told, plain.book_fault(pages))
                name = None if told is None else told[0]
                seen[name] = seen.get(name, 0) + 1
        self.assertGreaterEqual(set(seen), {None, "core", "depth", "sums"})

    def test_words_of_the_faults_are_those_of_deeds(self):
        # All states are exchanged: the core of each lot is all that is made of it.
        source = random.Random(79)
        seen = {"ends": 0, "sums": 0}
        for at in range(120):
            machine = support.signed(source) if at % 2 else support.exchanging(source)
            if support.Plain(machine).deeds(60) is None:
                continue
            pages = any_pages(machine)
            told = book_fault(machine, pages)
            self.assertEqual(told, support.Plain(machine).book_fault(pages))
            if told is not None:
                seen[told[0]] += 1
        self.assertGreater(min(seen.values()), 5)

    def test_equal_calls(self):
        for machine in (SIGNS, THREE, RING, FIVE):
            pages = any_pages(machine)
            self.assertEqual(book_fault(machine, pages), book_fault(machine, pages))


if __name__ == "__main__":
    unittest.main()
