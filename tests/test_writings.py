"""Point 20: writings whose tables have great ranks."""

import random
import unittest

import support
from saidacross.answertables import answers, rank
from saidacross.blocks import block, block_fault
from saidacross.errors import IsFixed, NoMark, NoNumber, NotLength, TooMany
from saidacross.kinds import fixed, kind
from saidacross.machines import Machine, least
from saidacross.writings import mark_block, mark_fault, mark_rank, mark_writings, order_writings
from test_answertables import plain_rank, plain_table
from test_blocks import FIRST, RING, SIGNS, THREE
from test_deeds import EXCHANGES, HUNDRED, HUNDRED_AND_ONE, counts
from test_pieces import CUBE

# For RING: it says yes if a and b come by turns, a first and b last.
MARK = ("", ("ab", "a", "a", "b", "b"), "")


def of_length(seed, many, most=100):
    """Drawn machines of the kind "length"."""
    return [m for m in support.drawn_machines(seed, many, most) if kind(m) == "length"]


class OrderWritingsTest(unittest.TestCase):
    def check(self, machine, size):
        told = order_writings(machine, size)
        self.assertIsInstance(told, tuple)
        dealing, ones, others = told
        self.assertLessEqual(set(dealing), set("AB"))
        self.assertIsInstance(ones, list)
        self.assertIsInstance(others, list)
        self.assertEqual((len(ones), len(others)), (size, size))
        self.assertLessEqual(len(dealing), 2 * size + 2 * len(least(machine).table()))
        table = answers(machine, dealing, ones, others)
        self.assertEqual(table, plain_table(machine, dealing, ones, others))
        self.assertEqual(rank(table), size)
        return table

    def test_drawn(self):
        source = random.Random(281)
        for machine in support.drawn_machines(282, 150):
            if not fixed(machine):
                for size in (1, 2, source.randint(3, 9)):
                    self.assertEqual(plain_rank(self.check(machine, size)), size)
                self.assertEqual(order_writings(machine, 3), order_writings(machine, 3))

    def test_edges(self):
        for machine in (FIRST, RING, EXCHANGES):
            for size in (1, 2, 100):
                self.check(machine, size)

    def test_new_lists(self):
        keep = order_writings(FIRST, 3)
        _, ones, others = order_writings(FIRST, 3)
        ones.clear()
        self.assertEqual(len(others), 3)
        others[0] = None
        self.assertEqual(order_writings(FIRST, 3), keep)

    def test_wrong(self):
        for size in [0, 101, -1, True, None, "1", [1], 10 ** 30]:
            for machine in (FIRST, CUBE, EXCHANGES):
                with self.assertRaises(NoNumber):
                    order_writings(machine, size)
        for size in support.odd_values():
            if size not in (1, 2, 7) or size is True:
                with self.assertRaises(NoNumber):
                    order_writings(FIRST, size)
        for machine in (CUBE, counts(6, 6, 5), Machine("a", ((1,), (0,)), (0,))):
            with self.assertRaises(IsFixed):
                order_writings(machine, 3)


class MarkBlockTest(unittest.TestCase):
    def test_by_definition(self):
        for machine in of_length(283, 200) + [RING, SIGNS, THREE, HUNDRED]:
            told = mark_block(machine)
            self.assertIsInstance(told, tuple)
            ahead, five, behind = told
            self.assertIsNone(block_fault(machine, five))
            e, a, b, c, d = five
            self.assertNotEqual(
                support.plainly_says(machine, ahead + e + behind),
                support.plainly_says(machine, ahead + e + a + b + c + d + e + behind))
            self.assertIsNone(mark_fault(machine, told))
            self.assertEqual(mark_block(machine), told)

    def test_wrong(self):
        for machine in (EXCHANGES, HUNDRED_AND_ONE, counts(6, 6, 5)):
            with self.assertRaises(TooMany) as caught:
                mark_block(machine)
            self.assertEqual(caught.exception.most, 100)
        for machine in (FIRST, CUBE, counts(5, 5, 4), Machine("a", ((0,),), ())):
            with self.assertRaises(NotLength):
                mark_block(machine)


class MarkFaultTest(unittest.TestCase):
    def test_by_hand(self):
        self.assertIsNone(mark_fault(RING, MARK))
        five = MARK[1]
        self.assertEqual(mark_fault(RING, ("a", five, "")), ("alike",))
        self.assertIsNone(mark_fault(RING, ("ab", five, "ab")))
        self.assertEqual(mark_fault(RING, ("", ("a", "", "", "", ""), "")), ("steady",))
        self.assertEqual(mark_fault(RING, ("", ("ab", "a", "", "", ""), "")), ("one",))
        self.assertEqual(mark_fault(RING, ("", ("ab", "", "a", "", ""), "")), ("other",))
        self.assertEqual(mark_fault(RING, ("", ("ab", "", "", "", ""), "")), ("both",))

    def test_form(self):
        five = MARK[1]
        bad = [("", five), (five, "", ""), ("", "", five), ("", list(five), ""), ["", five, ""],
               ("", five, "", ""), ("c", five, ""), ("", five, "c"), ("", five, None), (None, five, ""),
               ("", five[:4], ""), ("", five + ("",), ""), ("", ("ab", "a", "a", "b", "c"), ""),
               ("", ("ab", "a", "a", "b", 0), ""), ("", None, ""), five, "", (), ([], five, ""),
               # The form of the last word counts ahead of the faults of the block.
               ("", ("a", "", "", "", ""), "c"), ("", ("a", "", "", "", ""), None)]
        for thing in bad + support.odd_values():
            self.assertEqual(mark_fault(RING, thing), ("form",))

    def test_of_machines_of_all_kinds(self):
        for machine in (FIRST, CUBE, EXCHANGES, counts(6, 6, 5)):
            self.assertEqual(mark_fault(machine, ("", ("", "", "", "", ""), "")), ("both",))
        # A machine with more than 100 deeds has mark blocks, too.
        five = ("", "a", "b", "aaaa", "b")
        self.assertIsNone(mark_fault(EXCHANGES, ("", five, "")))
        self.assertEqual(mark_rank(EXCHANGES, ("", five, ""), 2),
                         rank(answers(EXCHANGES, *mark_writings(EXCHANGES, ("", five, ""), 2))))

    def test_by_definition(self):
        source = random.Random(284)
        seen = {}
        for machine in of_length(285, 200):
            ahead, five, behind = mark_block(machine)
            words = [word for word, _ in support.Plain(machine).deeds()]
            for _ in range(12):
                parts = list(five)
                if source.random() < 0.5:
                    parts[source.randrange(5)] = source.choice(words)
                thing = (source.choice([ahead, source.choice(words)]), tuple(parts),
                         source.choice([behind, source.choice(words)]))
                told = mark_fault(machine, thing)
                fault = block_fault(machine, tuple(parts))
                one, other = thing[0] + parts[0], thing[0] + "".join(parts) + parts[0]
                if fault is None and (support.plainly_says(machine, one + thing[2])
                                      == support.plainly_says(machine, other + thing[2])):
                    fault = ("alike",)
                self.assertEqual(told, fault)
                seen[told and told[0]] = True
        self.assertEqual(set(seen), {None, "steady", "one", "other", "both", "alike"})


class MarkWritingsTest(unittest.TestCase):
    def plain(self, thing, marks):
        """The writings, part by part of the row."""
        ahead, (e, a, b, c, d), behind = thing
        parts = [("A", ahead, None), ("A", e, None)]
        for mark in range(marks):
            parts += [("A", a, mark), ("B", b, mark), ("A", c, mark), ("B", d, mark), ("A", e, None)]
        parts.append(("A", behind, None))

        def writing(hand, number):
            digits = bin(2 ** marks + number)[3:]
            return "".join(word if mark is None or digits[mark] == "1" else "." * len(word)
                           for holder, word, mark in parts if holder == hand)

        return ("".join(hand * len(word) for hand, word, _ in parts),
                [writing("A", number) for number in range(2 ** marks)],
                [writing("B", number) for number in range(2 ** marks)])

    def test_by_definition(self):
        for machine in of_length(286, 120) + [RING, SIGNS, THREE, HUNDRED]:
            thing = mark_block(machine)
            for marks in (1, 2, 3, 7):
                self.assertEqual(mark_writings(machine, thing, marks), self.plain(thing, marks))

    def test_by_hand(self):
        self.assertEqual(mark_writings(RING, MARK, 1), ("AAABABAA", ["ab..ab", "ababab"], ["..", "ab"]))
        dealing, ones, others = mark_writings(RING, ("ab", MARK[1], "ab"), 2)
        self.assertEqual(dealing, "AAAAABABAAABABAAAA")
        self.assertEqual(others, ["....", "..ab", "ab..", "abab"])
        self.assertEqual(ones[1], "abab..abababab")

    def test_a_mark_is_seen_just_where_both_hold_it(self):
        for machine in of_length(287, 60):
            ahead, five, behind = thing = mark_block(machine)
            table = answers(machine, *mark_writings(machine, thing, 3))
            mark = "".join(five[1:]) + five[0]
            for one in range(8):
                for other in range(8):
                    word = ahead + five[0] + mark * bin(one & other).count("1") + behind
                    self.assertEqual(table[one][other], support.plainly_says(machine, word))

    def test_new_lists(self):
        mark_writings(RING, MARK, 2)[1].clear()
        mark_writings(RING, MARK, 2)[2].clear()
        self.assertEqual(mark_writings(RING, MARK, 2), self.plain(MARK, 2))

    def test_wrong(self):
        for tell in (mark_writings, mark_rank):
            for thing in support.odd_values() + [("a", MARK[1], ""), ("", MARK[1], "a"), list(MARK)]:
                for marks in (1, None, 0):
                    with self.assertRaises(NoMark):
                        tell(RING, thing, marks)
            for machine in (FIRST, CUBE, THREE):
                with self.assertRaises(NoMark):
                    tell(machine, MARK, 1)
            for marks in [0, -1, 301, True, None, "1", [1], 10 ** 30, (1,)]:
                with self.assertRaises(NoNumber):
                    tell(RING, MARK, marks)
        with self.assertRaises(NoNumber):
            mark_writings(RING, MARK, 8)


class MarkRankTest(unittest.TestCase):
    def test_by_tables(self):
        for machine in of_length(288, 120) + [RING, SIGNS, THREE, HUNDRED]:
            thing = mark_block(machine)
            for marks in (1, 2, 3, 4):
                table = answers(machine, *mark_writings(machine, thing, marks))
                told = mark_rank(machine, thing, marks)
                self.assertEqual(told, rank(table))
                if marks < 4:
                    self.assertEqual(told, plain_rank(table))

    def test_seven_marks(self):
        for machine in of_length(289, 30)[:4] + [RING, THREE]:
            thing = mark_block(machine)
            table = answers(machine, *mark_writings(machine, thing, 7))
            self.assertEqual(mark_rank(machine, thing, 7), rank(table))

    def test_by_the_fact(self):
        for machine in of_length(290, 20)[:8] + [RING, SIGNS]:
            ahead, five, behind = thing = mark_block(machine)
            for marks in (1, 12, 40, 300):
                mark = "".join(five[1:]) + five[0]
                state = support.walk(machine, ahead + five[0])
                g = []
                for _ in range(marks + 1):
                    g.append(support.walk(machine, behind, state) in machine.accepts())
                    state = support.walk(machine, mark, state)
                over = [[1]]
                for _ in range(marks):
                    over.append([1] + [x + y for x, y in zip(over[-1], over[-1][1:])] + [1])
                total = 0
                for s in range(marks + 1):
                    if sum((-1) ** (s - i) * over[s][i] * g[i] for i in range(s + 1)) != 0:
                        total += over[marks][s]
                self.assertEqual(mark_rank(machine, thing, marks), total)

    def test_by_hand(self):
        # Yes without marks alone: each D(s) is 1 or -1.
        self.assertEqual([mark_rank(RING, MARK, marks) for marks in (1, 2, 10, 300)],
                         [2, 4, 2 ** 10, 2 ** 300])

    def test_grows_as_the_marks_do(self):
        for machine in of_length(291, 40):
            thing = mark_block(machine)
            self.assertGreater(mark_rank(machine, thing, 6), 32)
            self.assertGreater(mark_rank(machine, thing, 300), mark_rank(machine, thing, 299))


if __name__ == "__main__":
    unittest.main()
