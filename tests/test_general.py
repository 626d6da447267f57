"""Points 2 to 4 and 29: the general rules and the interface."""

import copy
import importlib
import inspect
import random
import sys
import unittest

import support
from saidacross.accounts import account, account_fault, account_value
from saidacross.answertables import answers, rank
from saidacross.blocks import block, block_fault
from saidacross.boards import Board
from saidacross.books import book, book_fault
from saidacross.boxes import box, parted, worth
from saidacross.dealings import crossed, seen, stretches
from saidacross.deeds import deed, deeds, done, steady
from saidacross.desk import Desk
from saidacross.errors import (NoAccount, NoCounts, NoDeed, NoLot, NoMachine, NoNumber, NoPlace, NoSaying,
                               NoTable, NoTurn, NoWord, SaidError)
from saidacross.gaps import gap
from saidacross.halves import halves, heard_once, once, settled
from saidacross.kinds import fixed, kind, swap, swap_fault
from saidacross.lots import core, fulls, made
from saidacross.machines import Machine, least, parting, says, says_far
from saidacross.owners import own_talk, owned
from saidacross.pieces import between, modulus, pieces, pieces_back
from saidacross.quietly import quiet
from saidacross.sayings import holds, machine_of
from saidacross.sayingtexts import read_saying, saying_text
from saidacross.strangers import break_long, break_talk
from saidacross.talks import Talk, cheapest, most_bits, ways
from saidacross.texts import machine_text, read_machine, read_talk, talk_text
from saidacross.thirds import spread, thirds
from saidacross.together import around, backward, both, either, otherwise, put, without
from saidacross.writings import mark_block, mark_fault, mark_rank, mark_writings, order_writings
from test_deeds import EXCHANGES, counts

INTERFACE = {
    "machines": ["says(machine, word)", "says_far(machine, word, times)", "least(machine)",
                 "parting(one, other)"],
    "sayings": ["holds(letters, saying, word)", "machine_of(letters, saying)"],
    "deeds": ["deed(machine, word)", "deeds(machine)", "done(machine, one, other)",
              "steady(machine, word)"],
    "lots": ["made(machine, lot)", "fulls(machine, lot)", "core(machine, lot)"],
    "kinds": ["fixed(machine)", "swap(machine)", "swap_fault(machine, thing)", "kind(machine)"],
    "blocks": ["block(machine)", "block_fault(machine, thing)"],
    "books": ["book(machine)", "book_fault(machine, thing)"],
    "gaps": ["gap(machine)"],
    "pieces": ["pieces(lot, word)", "pieces_back(lot, word)", "modulus(machine, lot)",
               "between(machine, lot, left, counts, right)"],
    "boxes": ["box(machine, lot)", "worth(machine, lot, letter)", "parted(machine, lot, word)"],
    "dealings": ["seen(dealing, row, hand)", "crossed(dealing, rows)", "stretches(dealing)"],
    "talks": ["most_bits(machine, dealing, way)", "ways(machine)", "cheapest(machine, dealing)"],
    "answertables": ["answers(machine, dealing, ones, others)", "rank(table)"],
    "writings": ["order_writings(machine, size)", "mark_block(machine)",
                 "mark_fault(machine, thing)", "mark_writings(machine, thing, marks)",
                 "mark_rank(machine, thing, marks)"],
    "strangers": ["break_talk(machine, most, turn, tell)", "break_long(machine, most, turn, tell)"],
    "halves": ["halves(machine, ahead, behind)", "settled(machine)",
               "once(machine, ahead, behind, told)",
               "heard_once(machine, ahead, behind, number, told)"],
    "thirds": ["thirds(machine, ahead, middle, behind)", "spread(machine)"],
    "accounts": ["account(machine)", "account_value(thing, word)", "account_fault(machine, thing)"],
    "owners": ["owned(machine, owners)", "own_talk(machine, owners, dealing, row)"],
    "together": ["otherwise(machine)", "both(one, other)", "either(one, other)", "backward(machine)",
                 "without(machine, letters)", "put(machine, words)", "around(machine, ahead, behind)"],
    "quietly": ["quiet(machine, kind)"],
    "texts": ["machine_text(machine)", "read_machine(text)", "talk_text(messages)", "read_talk(text)"],
    "sayingtexts": ["saying_text(saying)", "read_saying(text)"],
}
CLASSES = {
    "machines": ("Machine(letters, table, accepts)", ["letters()", "table()", "accepts()",
                                                      "__eq__(other)"]),
    "talks": ("Talk(machine, dealing, row, way)", ["step()", "heard()", "bits()", "answer()", "run()",
                                                   "back(many)", "copy()"]),
    "boards": ("Board(machine, dealing, row, way)", ["change(place, sign)", "row()", "answer()", "bits()",
                                                     "back()"]),
    "desk": ("Desk()", ["tell(line)", "undoable()"]),
}
FIRST = Machine("ab", ((1, 2), (1, 1), (2, 2)), (1,))
RING = Machine("ab", ((1, 2), (2, 0), (2, 2)), (0,))
BOOK = {"a": (1, "a"), "b": (1, "b"), "ab": (1, "ab")}
BLOCK = ("ab", "a", "a", "b", "b")
SAYING = ("and", ("first", "a"), ("not", ("count", "b", 3, 1)))


def calls_about(machine):
    """Calls of each function with right arguments, as tuples of a function and its arguments."""
    x, y = machine.letters()[0], machine.letters()[-1]
    return [
        (says, machine, x + y), (says_far, machine, x + y, 10 ** 30), (least, machine),
        (parting, machine, machine), (holds, "ab", ("cut", "a", ("last", "b"), ("only", "")), "ba"),
        (machine_of, "ab", ("and", ("first", "a"), ("count", "b", 3, 1))), (deed, machine, x),
        (deeds, machine), (done, machine, deed(machine, x), deed(machine, y)),
        (steady, machine, y + x), (made, machine, x), (fulls, machine, x), (core, machine, y),
        (fixed, machine), (swap, machine), (swap_fault, machine, (x, x, y, "")), (kind, machine),
        (block, machine), (block_fault, machine, BLOCK), (book, machine),
        (book_fault, machine, dict(BOOK)), (gap, machine), (pieces, "ab", "abaab"),
        (pieces_back, "ab", "abaab"), (seen, "ABC", "az.", "B"), (crossed, "AB", ["ab", ".z"]),
        (stretches, "AABDD"), (most_bits, machine, "ABBA", "passed"), (ways, machine),
        (cheapest, machine, "ABBA"), (whole_talk, machine, "ABBA", x + "." + y + x, "passed"),
        (answers, machine, "AB", [x, ".", x], [y, y]), (rank, [[1, 2], [2, 4], [0, 1]]),
        (mark_fault, machine, ("", BLOCK, "")), (halves, machine, 2, 10 ** 30), (settled, machine),
        (once, machine, 2, 3, x + "."), (heard_once, machine, 2, 3, 0, "." + y + y),
    ] + calls_put_together(machine) + calls_by_kind(machine)


def calls_put_together(machine):
    """Calls of the functions that put machines together, and of those for all machines behind them."""
    x, y = machine.letters()[0], machine.letters()[-1]
    mine = {letter: "B" for letter in machine.letters()}
    return [
        (account, machine), (account_value, account(machine), x + y), (spread, machine),
        (account_fault, machine, account(machine)), (thirds, machine, 1, 10 ** 30, 2),
        (owned, machine, mine), (own_talk, machine, mine, "ABB", "." + y + x), (otherwise, machine),
        (both, machine, least(machine)), (either, machine, least(machine)), (backward, machine),
        (without, machine, machine.letters()[1:]), (put, machine, {"q": x + y, "a": ""}),
        (around, machine, y, x), (quiet, machine, "fixed"), (quiet, machine, "digits"),
        (machine_text, machine), (read_machine, machine_text(machine)), (saying_text, SAYING),
        (read_saying, saying_text(SAYING)), (talk_text, [("A", "01"), ("D", "1")]), (read_talk, "A 01\nD 1"),
        (whole_board, machine, "ABBA", x + "." + y + x, "passed"), (whole_desk, machine),
    ]


def whole_board(machine, dealing, row, way):
    """All that a board tells of some changes."""
    board = Board(machine, dealing, row, way)
    told = [board.change(place, sign) for place, sign in ((1, row[0]), (0, "."), (3, row[2]))]
    return (told, board.row(), board.answer(), board.bits(), board.back(), board.row(), board.bits())


def whole_desk(machine):
    """All that a desk tells of some lines."""
    desk = Desk()
    x = machine.letters()[0]
    lines = ["keep m " + machine_text(machine).replace("\n", "|"), "names", "kind m", "swap m", "say m ." + x,
             "talk m ABA .." + x, "bits", "answer", "undo", "make m a (last a)", "drop m", "undo", "names"]
    return ([desk.tell(line) for line in lines], desk.undoable())


def whole_talk(machine, dealing, row, way):
    """All that a talk tells."""
    talk = Talk(machine, dealing, row, way)
    twin = talk.copy()
    return (talk.run(), talk.heard(), talk.bits(), twin.heard(), twin.answer(), talk.answer())


def calls_by_kind(machine):
    """Calls that are right for some machines alone."""
    lot = machine.letters()
    calls = []
    if book(machine) is not None:
        deep = lot * book(machine)[lot][0]
        calls += [(modulus, machine, lot), (between, machine, lot, deep, (7,) * len(lot), deep),
                  (box, machine, lot), (worth, machine, lot, lot[0]), (parted, machine, lot, deep),
                  (whole_talk, machine, "ABBA", lot[0] + "." + lot[-1] * 2, "book")]
    if fixed(machine):
        calls.append((whole_talk, machine, "ABBA", lot[0] + "." + lot[-1] * 2, "sums"))
        calls.append((whole_board, machine, "ABBA", lot[0] + "." + lot[-1] * 2, "sums"))
    else:
        calls += [(order_writings, machine, 3),
                  (break_talk, machine, 1, lambda dealing, heard: heard == "1" or not heard and "A",
                   lambda dealing, hand, sees, heard: "01"["." in sees])]
    if block(machine) is not None:
        thing = mark_block(machine)
        calls += [(mark_block, machine), (mark_writings, machine, thing, 2),
                  (mark_rank, machine, thing, 20),
                  (break_long, machine, 0, lambda dealing, heard: True, None)]
    return calls


class InterfaceTest(unittest.TestCase):
    def test_functions(self):
        for file, listed in INTERFACE.items():
            module = importlib.import_module("saidacross." + file)
            for line in listed:
                name, arguments = line[:-1].split("(")
                function = getattr(module, name)
                self.assertTrue(inspect.isfunction(function), name)
                self.assertEqual(function.__module__, "saidacross." + file)
                told = inspect.signature(function).parameters
                self.assertEqual(list(told), arguments.split(", "), name)
                for parameter in told.values():
                    self.assertIs(parameter.default, inspect.Parameter.empty)

    def test_classes(self):
        for file, (line, methods) in CLASSES.items():
            name, arguments = line[:-1].split("(")
            one = getattr(importlib.import_module("saidacross." + file), name)
            self.assertTrue(inspect.isclass(one))
            self.assertEqual(one.__module__, "saidacross." + file)
            self.assertEqual(list(inspect.signature(one).parameters), arguments.split(", ") if arguments else [])
            for method in methods:
                name, arguments = method[:-1].split("(")
                self.assertIn(name, vars(one))
                told = list(inspect.signature(vars(one)[name]).parameters)
                self.assertEqual(told, ["self"] + (arguments.split(", ") if arguments else []))

    def test_all_that_the_document_lists(self):
        listed = {file: [line.split("(")[0] for line in lines] for file, lines in INTERFACE.items()}
        for file, (line, _) in CLASSES.items():
            listed.setdefault(file, []).append(line.split("(")[0])
        self.assertEqual(sum(len(names) for names in listed.values()), 73)
        self.assertEqual(len(listed), 25)
        for file in listed:
            module = importlib.import_module("saidacross." + file)
            for name in listed[file]:
                self.assertEqual(getattr(module, name).__module__, "saidacross." + file)

    def test_kinds_of_values(self):
        for machine in (FIRST, RING, Machine("c", ((0,),), ())):
            self.assertIs(type(least(machine)), Machine)
            self.assertIs(type(deed(machine, "")), tuple)
            self.assertIs(type(deeds(machine)), list)
            self.assertIs(type(deeds(machine)[0]), tuple)
            self.assertIs(type(steady(machine, "")), int)
            for tell in (made, fulls, core):
                told = tell(machine, machine.letters()[0])
                self.assertIs(type(told), list)
                self.assertEqual({type(one) for one in told}, {tuple})
            self.assertIs(type(fixed(machine)), bool)
            self.assertIn(type(swap(machine)), (tuple, type(None)))
            self.assertIs(type(kind(machine)), str)
        self.assertIs(type(machine_of("ab", ("first", "a"))), Machine)
        self.assertIs(type(book(FIRST)), dict)
        self.assertEqual({type(page) for page in book(FIRST).values()}, {tuple})
        self.assertIs(type(block(RING)), tuple)

    def test_kinds_of_values_of_talks(self):
        talk = Talk(FIRST, "AB", "ab", "book")
        self.assertEqual((type(talk.heard()), type(talk.bits()), talk.answer()), (list, int, None))
        self.assertIs(type(talk.step()), tuple)
        self.assertIs(type(talk.run()), bool)
        self.assertIs(type(talk.answer()), bool)
        self.assertIsNone(talk.back(1))
        self.assertIs(type(talk.copy()), Talk)
        self.assertEqual([type(one) for one in (most_bits(FIRST, "AB", "book"), ways(FIRST),
                                                cheapest(FIRST, "AB"))], [int, list, str])

    def test_kinds_of_values_of_rows_and_tables(self):
        self.assertIs(type(gap(RING)), tuple)
        self.assertEqual([type(one) for one in pieces("a", "aa")], [list, str])
        self.assertEqual([type(one) for one in pieces_back("a", "aa")], [str, list])
        self.assertIs(type(modulus(FIRST, "ab")), int)
        self.assertEqual([type(one) for one in box(FIRST, "ab")], [list] * 3)
        for told in (between(FIRST, "a", "a", (1,), "a"), worth(FIRST, "a", "a"),
                     parted(FIRST, "a", "a"), settled(FIRST), halves(FIRST, 1, 1), mark_block(RING)):
            self.assertIs(type(told), tuple)
        self.assertEqual([type(one) for one in halves(FIRST, 1, 1) + settled(FIRST)], [int] * 5)
        self.assertIs(type(once(FIRST, 1, 1, "a")), int)
        self.assertIs(type(heard_once(FIRST, 1, 1, 0, "a")), bool)
        self.assertIs(type(rank([[1]])), int)
        self.assertIs(type(mark_rank(RING, mark_block(RING), 3)), int)
        for told in (order_writings(FIRST, 2), mark_writings(RING, mark_block(RING), 1)):
            self.assertEqual([type(one) for one in told], [str, list, list])

    def test_kinds_of_values_of_what_is_put_together(self):
        for told in (thirds(FIRST, 1, 1, 1), spread(FIRST), account_value(account(FIRST), "a"),
                     read_saying("(only -)"), account_fault(FIRST, None)):
            self.assertIs(type(told), tuple)
        self.assertEqual([type(one) for one in account(FIRST)], [tuple, dict, tuple])
        self.assertIs(type(owned(FIRST, {"a": "A", "b": "A"})), bool)
        self.assertEqual([type(one) for one in own_talk(FIRST, {"a": "A", "b": "A"}, "AB", "b.")], [list, bool])
        board = Board(FIRST, "AB", "ab", "passed")
        self.assertEqual([type(one) for one in (board.change(0, "b"), board.row(), board.answer(), board.bits(),
                                                board.back())], [list, str, bool, int, bool])
        for machine in (otherwise(FIRST), both(FIRST, RING), either(FIRST, RING), backward(FIRST),
                        without(FIRST, "a"), put(FIRST, {"c": "ab"}), around(FIRST, "a", "b"),
                        read_machine(machine_text(FIRST))):
            self.assertIs(type(machine), Machine)
        self.assertEqual([type(one) for one in (quiet(FIRST, "fixed"), read_talk("A 0"))], [list, list])
        self.assertEqual([type(one) for one in (machine_text(FIRST), talk_text([]), saying_text(SAYING),
                                                Desk().tell("names"))], [str] * 4)
        self.assertIs(type(Desk().undoable()), int)


class IntegersAndFlagsTest(unittest.TestCase):
    """Point 2: a flag is no integer, wherever it stands."""

    def test_flags_are_no_integers(self):
        for table in (((False,),), ((0,), (True,))):
            with self.assertRaises(NoMachine):
                Machine("a", table, ())
        with self.assertRaises(NoMachine):
            Machine("a", ((0,),), (False,))
        for flag in (True, False):
            with self.assertRaises(NoNumber):
                says_far(FIRST, "a", flag)
            for pair in (((flag, 1, 2), (0, 1, 2)), ((0, 1, 2), (0, flag, 2))):
                with self.assertRaises(NoDeed):
                    done(FIRST, *pair)
            self.assertEqual(book_fault(FIRST, {**BOOK, "ab": (flag, "ab")}), ("form",))
            with self.assertRaises(NoCounts):
                between(FIRST, "ab", "ab", (0, flag), "ab")
            with self.assertRaises(NoTable):
                rank([[1, flag]])
            for call in (lambda: Talk(FIRST, "A", "a", "book").back(flag),
                         lambda: order_writings(FIRST, flag), lambda: halves(FIRST, 0, flag),
                         lambda: mark_rank(RING, mark_block(RING), flag),
                         lambda: heard_once(FIRST, 1, 1, flag, "a"),
                         lambda: break_talk(FIRST, flag, None, None)):
                with self.assertRaises(NoNumber):
                    call()
            with self.assertRaises(NoNumber):
                thirds(FIRST, 0, flag, 0)
            for pair in ((flag, 1), (1, flag)):
                with self.assertRaises(NoAccount):
                    account_value(((pair,), {"a": (((1, 1),),)}, ((1, 1),)), "a")
            with self.assertRaises(NoPlace):
                Board(FIRST, "AB", "ab", "passed").change(flag, "a")
            with self.assertRaises(NoSaying):
                saying_text(("least", "a", flag))
        # An integer is no flag, either.
        for number in (0, 1):
            with self.assertRaises(NoTurn):
                break_talk(FIRST, 2, lambda dealing, heard: number, None)

    def test_answers_are_flags(self):
        for told in (says(FIRST, "a"), says(FIRST, "b"), says_far(FIRST, "a", 3), fixed(FIRST),
                     holds("ab", ("first", "a"), "b"), holds("ab", ("only", ""), ""),
                     holds("ab", ("cut", "a", ("only", ""), ("only", "")), "b"),
                     holds("ab", ("and", ("in", "a"), ("in", "b")), "ab"),
                     holds("ab", ("or", ("in", "a"), ("in", "b")), "ab"),
                     FIRST == RING, FIRST == 3):
            self.assertIs(type(told), bool)


class NothingIsChangedTest(unittest.TestCase):
    """Point 3."""

    def test_machines_stay_as_they_were(self):
        for machine in support.drawn_machines(81, 30):
            parts = (machine.letters(), machine.table(), machine.accepts())
            for function, *arguments in calls_about(machine):
                function(*arguments)
                self.assertEqual((machine.letters(), machine.table(), machine.accepts()), parts)

    def test_arguments_stay_as_they_were(self):
        things = [["ab"], {"a": [1, "a"], "b": [2]}, {"ab": (1, "ab"), "a": (1, "a"), "b": (1, "b")},
                  [["a", "b"], {}], ("", "a", ["b"], {"": ""}), ["", "a", "b", ""], [0, 1, 2],
                  [[0, 2, 1], [1, 1, 1], [2, 4, 2]], ["a", "b"], ["ab", ".."], {"b": "B", "a": "A"},
                  {"b": "B", "a": "B"}, {"q": "ab", "a": ""}, [("A", "01"), ("D", "1")], account(FIRST), account(RING),
                  ("not", ["first", "a"]), {"b": "A", "c": ["A"]}, (((1, 1),), {"b": [((1, 2),)], "a": 0}, [])]
        judges = [
            lambda thing: says(FIRST, thing), lambda thing: says_far(FIRST, "a", thing),
            lambda thing: holds(thing, ("first", "a"), "a"), lambda thing: holds("ab", thing, "a"),
            lambda thing: holds("ab", ("first", "a"), thing), lambda thing: machine_of("ab", thing),
            lambda thing: machine_of(thing, ("first", "a")), lambda thing: deed(FIRST, thing),
            lambda thing: done(FIRST, thing, (0, 1, 2)), lambda thing: steady(FIRST, thing),
            lambda thing: done(FIRST, (0, 1, 2), thing), lambda thing: made(FIRST, thing),
            lambda thing: fulls(FIRST, thing), lambda thing: core(FIRST, thing),
            lambda thing: swap_fault(FIRST, thing), lambda thing: block_fault(FIRST, thing),
            lambda thing: book_fault(FIRST, thing), lambda thing: book_fault(RING, thing),
            lambda thing: Machine(thing, ((0,),), ()), lambda thing: Machine("a", thing, ()),
            lambda thing: Machine("a", ((0,),), thing), lambda thing: crossed("AB", thing),
            lambda thing: answers(FIRST, "AB", thing, ["a"]), lambda thing: rank(thing),
            lambda thing: answers(FIRST, "AB", ["a"], thing), lambda thing: mark_fault(FIRST, thing),
            lambda thing: mark_rank(RING, thing, 1), lambda thing: pieces("ab", thing),
            lambda thing: between(FIRST, "ab", "ab", thing, "ab"),
            lambda thing: Talk(FIRST, "AB", "ab", thing), lambda thing: most_bits(FIRST, thing, "book"),
            lambda thing: account_value(thing, "ab"), lambda thing: account_fault(FIRST, thing),
            lambda thing: account_fault(RING, thing), lambda thing: owned(FIRST, thing),
            lambda thing: own_talk(FIRST, thing, "AB", ".b"), lambda thing: put(FIRST, thing),
            lambda thing: talk_text(thing), lambda thing: read_talk(thing), lambda thing: read_machine(thing),
            lambda thing: saying_text(thing), lambda thing: read_saying(thing), lambda thing: without(FIRST, thing),
            lambda thing: quiet(FIRST, thing), lambda thing: Board(FIRST, "AB", "ab", thing),
            lambda thing: Board(FIRST, "AB", "ab", "passed").change(0, thing), lambda thing: Desk().tell(thing),
        ]
        for judge in judges:
            for thing in things:
                keep = copy.deepcopy(thing)
                try:
                    judge(thing)
                except SaidError:
                    pass
                self.assertEqual(thing, keep)
                if isinstance(thing, dict):
                    self.assertEqual(list(thing), list(keep))

    def test_equal_calls_give_equal_results(self):
        for machine in [FIRST, RING] + support.drawn_machines(82, 40):
            twin = Machine(machine.letters(), machine.table(), machine.accepts())
            for one, other in zip(calls_about(machine), calls_about(twin)):
                told = one[0](*one[1:])
                self.assertEqual(one[0](*one[1:]), told)
                self.assertEqual(other[0](*other[1:]), told)

    def test_what_was_returned_is_new(self):
        for machine in [FIRST] + support.drawn_machines(83, 20):
            for function, *arguments in calls_about(machine):
                told = function(*arguments)
                keep = copy.deepcopy(told)
                self.spoil(told)
                self.assertEqual(function(*arguments), keep)

    def spoil(self, told):
        """Changes each list and each dict in what was returned."""
        if isinstance(told, (list, tuple, dict)):
            for part in list(told.values()) if isinstance(told, dict) else list(told):
                self.spoil(part)
        if isinstance(told, list):
            told.reverse()
            told.append(None)
            told[0] = 0
        elif isinstance(told, dict):
            told.clear()
            told["a"] = None

    def test_errors_change_nothing(self):
        keep = deeds(FIRST)
        for judge in (lambda: says(FIRST, "c"), lambda: made(FIRST, "c"),
                      lambda: done(FIRST, (), ()), lambda: deeds(EXCHANGES)):
            with self.assertRaises(SaidError):
                judge()
            self.assertEqual(deeds(FIRST), keep)

    def test_what_was_returned_may_be_passed_on(self):
        machine = counts(6, 6, 5)
        self.assertEqual(len(machine.table()), 180)
        self.assertEqual(least(machine), machine)
        self.assertIs(says(machine, "aaaaaabbbbbbccccc"), True)
        self.assertIs(says_far(machine, "ab", 10 ** 30 - 4), True)
        self.assertIsNone(parting(machine, least(machine)))
        self.assertEqual(len(deed(machine, "abc")), 180)
        self.assertEqual(done(machine, deed(machine, "a"), deed(machine, "b")), deed(machine, "ab"))
        other = machine_of("abcd", ("count", "a", 6, 0))
        self.assertEqual(parting(machine, other), "b")
        self.assertEqual(halves(machine, 10 ** 30, 10 ** 30), (180, 180, 180))
        self.assertIsNone(account_fault(machine, account(machine)))
        self.assertEqual(both(otherwise(machine), backward(machine)).table(), ((0, 0, 0, 0),))
        self.assertEqual(read_machine(machine_text(machine)), machine)
        self.assertIs(owned(without(machine, "d"), {"a": "A", "b": "B", "c": "C"}), True)
        self.assertEqual(len(put(machine, {"x": "ab", "y": "ac"}).table()), 180)
        self.assertEqual(len(around(machine, "a" * 199, "b" * 200).table()), 180)
        dealing, ones, others = order_writings(EXCHANGES, 100)
        self.assertEqual(rank(answers(EXCHANGES, dealing, ones, others)), 100)
        self.assertEqual(len(stretches(dealing)), len(dealing))
        dealing, ones, others = mark_writings(RING, mark_block(RING), 7)
        row = crossed(dealing, [dealing.replace("A", "a").replace("B", "b"), "." * len(dealing)])
        for way in ways(RING):
            talk = Talk(RING, dealing, row, way)
            self.assertIs(talk.run(), says(RING, row.replace(".", "")))
            self.assertEqual(sum(len(bits) for _, bits in talk.heard()), talk.bits())


class OrderOfArgumentsTest(unittest.TestCase):
    """Point 4: each argument completely before the next one."""

    def test_first_wrong_argument_is_told(self):
        for word in (None, "c", 0, ["a"]):
            for times in (None, -1, True):
                with self.assertRaises(NoWord):
                    says_far(FIRST, word, times)
        with self.assertRaises(NoLot):
            made(EXCHANGES, "ba")
        with self.assertRaises(NoMachine) as caught:
            Machine("ab", ((0, 0), (0, 9)), (5,))
        self.assertEqual(caught.exception.part, "table")

    def test_values_of_each_kind(self):
        for thing in support.odd_values():
            self.assertEqual(mark_fault(FIRST, thing), ("form",))
            self.assertEqual(swap_fault(FIRST, thing), ("form",))
            self.assertEqual(block_fault(FIRST, thing), ("form",))
            self.assertEqual(book_fault(FIRST, thing), ("form",))
            self.assertEqual(account_fault(FIRST, thing), ("form",))
            for other in support.odd_values():
                with self.assertRaises(NoDeed):
                    done(FIRST, thing, other)
                with self.assertRaises(NoAccount):
                    account_value(thing, other)


class NoRecursionErrorTest(unittest.TestCase):
    """Point 4: no call goes deep, whatever is passed."""

    def shallow(self, call):
        limit = sys.getrecursionlimit()
        sys.setrecursionlimit(len(inspect.stack()) + 60)
        try:
            return call()
        finally:
            sys.setrecursionlimit(limit)

    def test_long_words(self):
        source = random.Random(84)
        word = "".join(source.choice("ab") for _ in range(3000))
        for machine in (FIRST, RING, EXCHANGES):
            self.assertEqual(self.shallow(lambda: says(machine, word)),
                             support.plainly_says(machine, word))
            self.shallow(lambda: says_far(machine, word, 10 ** 30))
            self.shallow(lambda: steady(machine, word))
            self.shallow(lambda: swap_fault(machine, (word, "a", "b", word)))
            self.shallow(lambda: block_fault(machine, (word,) * 5))
        self.shallow(lambda: book_fault(FIRST, {**BOOK, "ab": (100, word)}))
        self.shallow(lambda: holds("ab", ("cut", "a", ("in", "abab"), ("row", "bb")), word))

    def test_long_rows(self):
        source = random.Random(86)
        dealing = "".join(source.choice("ABCD") for _ in range(400))
        row = "".join(source.choice("ab.") for _ in range(400))
        for machine in (FIRST, RING, machine_of("ab", ("count", "a", 6, 2))):
            for way in ways(machine):
                talk = self.shallow(lambda: Talk(machine, dealing, row, way))
                self.assertIs(talk.answer() or self.shallow(talk.run), says(machine, row.replace(".", "")))
                self.shallow(talk.copy)
        self.shallow(lambda: pieces_back("ab", "ab" * 3000))
        self.shallow(lambda: rank([[int(one <= other) for other in range(128)] for one in range(128)]))
        self.shallow(lambda: mark_rank(RING, mark_block(RING), 300))
        self.shallow(lambda: once(FIRST, 3000, 5, "ab." * 1000))
        board = self.shallow(lambda: Board(RING, dealing, row, "passed"))
        for place in (0, 399, 200):
            self.shallow(lambda: board.change(place, "a"))
        self.shallow(lambda: own_talk(FIRST, {"a": "A", "b": "A"}, "A" * 400, row))
        self.shallow(lambda: account_value(account(FIRST), "ab" * 1500))
        self.shallow(lambda: read_talk(talk_text([("A", "01")] * 5000)))

    def test_many_states(self):
        machine = self.shallow(lambda: counts(5, 5, 2, 4))
        self.assertEqual(len(machine.table()), 200)
        for call in (lambda: least(machine), lambda: parting(machine, machine),
                     lambda: says(machine, "abcd" * 50), lambda: steady(machine, "abcd"),
                     lambda: fixed(machine), lambda: swap(machine),
                     lambda: halves(machine, 9, 9), lambda: settled(machine),
                     lambda: account_fault(machine, account(machine)), lambda: backward(machine),
                     lambda: both(machine, otherwise(machine)), lambda: either(machine, machine),
                     lambda: read_machine(machine_text(machine)), lambda: without(machine, "ab"),
                     lambda: put(machine, {"a": "abcd" * 50}), lambda: around(machine, "a", "b" * 200)):
            self.shallow(call)

    def test_deep_values(self):
        for thing in support.odd_values():
            for call in (lambda: Machine(thing, thing, thing), lambda: machine_of("ab", thing),
                         lambda: holds("ab", ("not", thing), thing), lambda: made(FIRST, thing),
                         lambda: deed(FIRST, thing), lambda: done(FIRST, thing, thing),
                         lambda: pieces(thing, thing), lambda: between(FIRST, "a", "a", thing, thing),
                         lambda: seen(thing, thing, thing), lambda: crossed("AB", thing),
                         lambda: Talk(FIRST, "AB", "ab", thing), lambda: rank(thing),
                         lambda: answers(FIRST, thing, thing, thing),
                         lambda: mark_writings(RING, thing, thing), lambda: account_value(thing, thing),
                         lambda: thirds(FIRST, 1, 1, [thing]), lambda: owned(FIRST, thing),
                         lambda: owned(FIRST, {"a": thing, "b": thing}), lambda: put(FIRST, thing),
                         lambda: put(FIRST, {"a": [thing]}), lambda: own_talk(FIRST, thing, thing, thing),
                         lambda: Board(FIRST, "AB", "ab", thing), lambda: without(FIRST, [thing]),
                         lambda: Board(FIRST, "AB", "ab", "passed").change(thing, thing),
                         lambda: Board(FIRST, "AB", "ab", "passed").change(0, thing), lambda: quiet(FIRST, thing),
                         lambda: around(FIRST, [thing], thing), lambda: saying_text(("not", thing)),
                         lambda: saying_text(thing), lambda: read_saying(thing), lambda: read_machine(thing),
                         lambda: read_talk(thing or None), lambda: talk_text([thing]), lambda: Desk().tell(thing)):
                with self.assertRaises(SaidError):
                    if self.shallow(call) is not None and isinstance(thing, str):
                        raise SaidError()
            for judge in (swap_fault, block_fault, book_fault, mark_fault, account_fault):
                self.assertEqual(self.shallow(lambda: judge(FIRST, thing)), ("form",))


class OrderOfStringsTest(unittest.TestCase):
    """Point 2: a shorter string comes first, then as Python orders them."""

    def test_words(self):
        for machine in support.drawn_machines(85, 40):
            words = [word for word, _ in deeds(machine)]
            self.assertEqual(words, support.in_order(words))

    def test_lots(self):
        # Each letter does nothing behind the first three of it: one of them is too few.
        machine = machine_of("abc", ("and", ("least", "a", 3),
                                     ("and", ("least", "b", 3), ("least", "c", 3))))
        pages = book(machine)
        order = ["a", "b", "c", "ab", "ac", "bc", "abc"]
        for lot in order:
            self.assertEqual(pages[lot], (3, "".join(letter * 3 for letter in lot)))
        spoiled = {lot: (1, lot) for lot in order}
        for lot in order:
            self.assertEqual(book_fault(machine, spoiled), ("core", lot))
            spoiled[lot] = pages[lot]
        self.assertIsNone(book_fault(machine, spoiled))


if __name__ == "__main__":
    unittest.main()
