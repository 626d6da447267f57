"""Point 25: the desk."""

import random
import re
import unittest

import support
from saidacross.desk import Desk
from saidacross.errors import (NoDealing, NoLetters, NoLine, NoName, NoRow, NoSaying, NothingDone, NoTalk, NoText,
                               SaidError, TalkOver, TooMany)
from saidacross.kinds import kind, swap
from saidacross.machines import Machine
from saidacross.sayings import machine_of
from saidacross.sayingtexts import read_saying, saying_text
from saidacross.talks import Talk, cheapest
from saidacross.texts import machine_text, read_machine
from test_deeds import EXCHANGES, ORDER, counts
from test_halves import NEVER
from test_sayings import drawn_saying

FORMS = [r"(keep) ([a-z]{1,8}) ([^\n]+)", r"(make) ([a-z]{1,8}) ([^ \n]+) ([^\n]+)", r"(drop) ([a-z]{1,8})",
         r"(names)", r"(kind) ([a-z]{1,8})", r"(say) ([a-z]{1,8}) ([^ \n]+)", r"(swap) ([a-z]{1,8})",
         r"(talk) ([a-z]{1,8}) ([^ \n]+) ([^ \n]+)", r"(step)", r"(bits)", r"(answer)", r"(undo)"]


def line_text(machine):
    """The text of a machine as it stands in a line."""
    return machine_text(machine).replace("\n", "|")


class Model:
    """A desk that keeps all that there was behind each line."""

    def __init__(self):
        # Tuples (machines, talk), a talk a tuple (machine, dealing, row, how many messages).
        self.stood = [({}, None)]

    def tell(self, line):
        """What the line returns, or the error that it raises."""
        matches = [re.fullmatch(form, line) for form in FORMS] if isinstance(line, str) else []
        matches = [match for match in matches if match]
        if not matches:
            return NoLine
        head, *parts = matches[0].groups()
        try:
            return getattr(self, head)(*parts)
        except SaidError as error:
            return type(error)

    def now(self):
        return self.stood[-1]

    def put(self, machines, talk):
        self.stood.append((machines, talk))
        return "ok"

    def found(self, name):
        if name not in self.now()[0]:
            raise NoName()
        return self.now()[0][name]

    def keep(self, name, text):
        return self.put({**self.now()[0], name: read_machine(text.replace("|", "\n"))}, self.now()[1])

    def make(self, name, letters, text):
        saying = read_saying(text)
        return self.put({**self.now()[0], name: machine_of(letters, saying)}, self.now()[1])

    def drop(self, name):
        self.found(name)
        return self.put({key: self.now()[0][key] for key in self.now()[0] if key != name}, self.now()[1])

    def names(self):
        return " ".join(support.in_order(self.now()[0])) or "none"

    def kind(self, name):
        return kind(self.found(name))

    def say(self, name, row):
        machine = self.found(name)
        if set(row) - set(machine.letters() + "."):
            raise NoRow()
        return "yes" if support.plainly_says(machine, row.replace(".", "")) else "no"

    def swap(self, name):
        found = swap(self.found(name))
        return "none" if found is None else " ".join(part if part else "-" for part in found)

    def talk(self, name, dealing, row):
        machine = self.found(name)
        way = cheapest(machine, dealing)
        Talk(machine, dealing, row, way)
        return self.put(self.now()[0], (machine, dealing, row, 0))

    def said(self):
        """The talk as it stands now, by a new one."""
        if self.now()[1] is None:
            raise NoTalk()
        machine, dealing, row, many = self.now()[1]
        talk = Talk(machine, dealing, row, cheapest(machine, dealing))
        for _ in range(many):
            talk.step()
        return talk

    def step(self):
        hand, bits = self.said().step()
        machines, (machine, dealing, row, many) = self.now()
        self.put(machines, (machine, dealing, row, many + 1))
        return hand + " " + bits

    def bits(self):
        return str(sum(len(bits) for _, bits in self.said().heard()))

    def answer(self):
        return {True: "yes", False: "no", None: "open"}[self.said().answer()]

    def undo(self):
        if len(self.stood) == 1:
            raise NothingDone()
        self.stood.pop()
        return "ok"


def drawn_line(source):
    """A line that is mostly one of the desk's."""
    name = source.choice(["a", "b", "z", "ab", "mm", "longname"])
    head = source.choice(["keep", "make", "make", "drop", "names", "kind", "say", "swap", "talk", "talk", "step",
                          "step", "step", "step", "bits", "answer", "undo", "undo", "undo", "odd"])
    letters = source.choice(["ab", "ab", "abc", "b"])
    if head == "keep":
        machine = source.choice([support.drawn_machine(source, letters), ORDER, EXCHANGES, NEVER])
        text = line_text(machine)
        return f"keep {name} {text if source.random() < 0.8 else text[:-1]}"
    if head == "make":
        text = saying_text(drawn_saying(source, source.choice([letters, letters, "abcx"]), 3))
        return f"make {name} {source.choice([letters, letters, letters, 'ba'])} {text[source.random() < 0.1:]}"
    if head == "say":
        return f"say {name} {support.drawn_word(source, letters + '.', 6)}"
    if head == "talk":
        dealing = support.drawn_word(source, source.choice(["AB", "AB", "ABC", "ABE"]), 6)
        signs = source.choice([letters + "."] * 4 + ["x"])
        row = "".join(source.choice(signs) for _ in dealing)
        return f"talk {name} {dealing} {row if source.random() < 0.9 else row + '.'}"
    if head in ("drop", "kind", "swap"):
        return f"{head} {name}"
    if head == "odd":
        return source.choice([None, "", " ", "steps", "step ", " step", "undo 1", "kind", "kind a b", "keep a", "Step",
                              "say a", "talk a AB", "drop toolongname", "make a ab", "names\n", ["step"], 3])
    return head


class DeskTest(unittest.TestCase):
    def told(self, desk, line):
        """What the line returns, or the error that it raises."""
        try:
            result = desk.tell(line)
        except SaidError as error:
            return type(error)
        self.assertIs(type(result), str)
        return result

    def lines(self, desk, *pairs):
        for line, wanted in pairs:
            self.assertEqual(self.told(desk, line), wanted, line)

    def test_against_a_model(self):
        source = random.Random(661)
        results = {}
        for _ in range(200):
            desk, model = Desk(), Model()
            for _ in range(120):
                line = drawn_line(source)
                wanted = model.tell(line)
                self.assertEqual(self.told(desk, line), wanted, line)
                self.assertEqual(desk.undoable(), len(model.stood) - 1)
                results[wanted] = results.get(wanted, 0) + 1
        for wanted in (NoLine, NoText, NoName, NoTalk, NothingDone, NoLetters, NoSaying, NoDealing, NoRow, TalkOver,
                       TooMany, "ok", "none", "yes", "no", "open", "fixed", "digits", "length"):
            self.assertGreater(results.get(wanted, 0), 3, wanted)

    def test_all_is_taken_back(self):
        source = random.Random(662)
        for _ in range(30):
            desk, model = Desk(), Model()
            for _ in range(40):
                line = drawn_line(source)
                while line == "undo":
                    line = drawn_line(source)
                self.assertEqual(self.told(desk, line), model.tell(line))
            while desk.undoable() > 0:
                self.lines(desk, *[(line, model.tell(line)) for line in ("names", "bits", "answer")])
                for name in ("a", "b", "z", "ab", "mm", "longname"):
                    for line in ("kind " + name, "swap " + name, "say " + name + " a.b"):
                        self.assertEqual(self.told(desk, line), model.tell(line))
                self.lines(desk, ("undo", model.tell("undo")))
            self.lines(desk, ("undo", NothingDone), ("names", "none"), ("bits", NoTalk))

    def test_by_hand(self):
        self.lines(Desk(), ("names", "none"), ("keep x " + line_text(ORDER), "ok"), ("kind x", "digits"),
                   ("swap x", "- a b -"), ("say x ..ab", "yes"), ("say x .", "no"), ("say x ba", "no"),
                   ("make even ab (count b 2 0)", "ok"), ("kind even", "fixed"), ("swap even", "none"),
                   ("make z abc (row ab)", "ok"), ("kind z", "length"), ("make ab a (only -)", "ok"),
                   ("names", "x z ab even"), ("talk even AB ab", "ok"), ("answer", "open"), ("bits", "0"),
                   ("step", "A 0"), ("bits", "1"), ("answer", "open"), ("step", "B 1"), ("answer", "no"),
                   ("step", TalkOver), ("bits", "2"), ("undo", "ok"), ("answer", "open"), ("step", "B 1"),
                   ("drop even", "ok"), ("kind even", NoName), ("answer", "no"), ("undo", "ok"), ("undo", "ok"),
                   ("undo", "ok"), ("bits", "0"), ("kind even", "fixed"), ("undo", "ok"), ("step", NoTalk))

    def test_a_talk_goes_on_with_its_machine(self):
        desk = Desk()
        self.lines(desk, ("make m ab (first a)", "ok"), ("talk m ABAB .ab.", "ok"), ("step", "A 00"),
                   ("drop m", "ok"), ("step", "B 01"), ("keep m " + line_text(NEVER), "ok"), ("step", "A 01"),
                   ("talk m AB ab", "ok"), ("answer", "no"), ("bits", "0"), ("step", TalkOver), ("undo", "ok"),
                   ("bits", "6"), ("make m b (only b)", "ok"), ("step", "B 01"), ("answer", "yes"), ("names", "m"),
                   *[("undo", "ok")] * 6, ("names", "m"), ("bits", "2"), *[("undo", "ok")] * 3,
                   ("undo", NothingDone))

    def test_an_elder_talk_stands_where_it_was_left(self):
        self.lines(Desk(), ("make m ab (count a 3 1)", "ok"), ("talk m ABC aab", "ok"), ("step", "A 01"),
                   ("talk m ABC aab", "ok"), ("bits", "0"), ("step", "A 01"), ("step", "B 01"), ("undo", "ok"),
                   ("undo", "ok"), ("undo", "ok"), ("bits", "2"), ("step", "B 01"), ("step", "C 00"), ("answer", "no"))

    def test_names_are_replaced(self):
        self.lines(Desk(), ("make q ab (first a)", "ok"), ("say q a", "yes"), ("make q ab (first b)", "ok"),
                   ("say q a", "no"), ("keep q " + line_text(Machine("c", ((0,),), (0,))), "ok"), ("say q a", NoRow),
                   ("say q c", "yes"), ("undo", "ok"), ("say q a", "no"), ("undo", "ok"), ("say q a", "yes"),
                   ("names", "q"), ("drop q", "ok"), ("drop q", NoName), ("names", "none"))

    def test_the_cheapest_way_is_taken(self):
        source = random.Random(663)
        for machine in support.drawn_machines(664, 40):
            desk = Desk()
            dealing = "".join(source.choice("ABC") for _ in range(source.randint(1, 12)))
            row = "".join(source.choice(machine.letters() + ".") for _ in dealing)
            talk = Talk(machine, dealing, row, cheapest(machine, dealing))
            end = talk.copy().run()
            self.lines(desk, ("keep k " + line_text(machine), "ok"), (f"talk k {dealing} {row}", "ok"))
            while talk.answer() is None:
                self.lines(desk, ("answer", "open"), ("step", " ".join(talk.step())), ("bits", str(talk.bits())))
            self.lines(desk, ("answer", "yes" if end else "no"))

    def test_great_machines(self):
        self.lines(Desk(), ("keep e " + line_text(EXCHANGES), "ok"), ("kind e", TooMany), ("say e a", "no"),
                   ("talk e AB ab", TooMany), ("talk e AB x", TooMany), ("talk e AE ab", NoDealing),
                   ("keep many " + line_text(counts(6, 6, 5)), "ok"), ("say many ..", "yes"), ("swap many", "none"),
                   ("make m abcd (and (and (count a 6 0) (count b 6 0)) (count c 6 0))", TooMany), ("names", "e many"))

    def test_no_line(self):
        wrong = ["", " ", "  ", "name", "names ", " names", "names a", "Names", "keep", "keep ", "keep a", "keep a ",
                 "keep  a", "keep A letters a|state 0|accepts", "keep a1 letters a|state 0|accepts",
                 "keep abcdefghi letters a|state 0|accepts", "keep a letters a|state 0|accepts\n",
                 "keep a letters a\nstate 0\naccepts", "make", "make a", "make a ", "make a ab", "make a ab ",
                 "make a  (first a)", "make  ab (first a)", "make A ab (first a)", "drop", "drop ",
                 "drop a ", "drop  a",
                 "drop a b", "drop abcdefghi", "drop A", "kind", "kind a ", "kind  a", "kind a.", "say",
                 "say a", "say a ",
                 "say a  ab", "say a a b", "say a ab ", "swap", "swap a b", "talk", "talk a", "talk a AB",
                 "talk a AB ",
                 "talk a AB ab ", "talk a AB ab c", "talk a  AB ab", "talk a AB  ab", "step ", "step 1",
                 "steps", "bits ",
                 "answer 1", "undo ", "undo 2", "UNDO", "\nstep", "step\n", "say a \n", "talk a A\n a", "help"]
        desk = Desk()
        desk.tell("make a ab (first a)")
        for line in wrong + support.odd_values() + [["names"], ("names",), {"names": 1}, b"names"]:
            self.assertEqual(self.told(desk, line), NoLine, line)
        self.lines(desk, ("names", "a"), ("kind a", "digits"))
        self.assertEqual(desk.undoable(), 1)

    def test_names_of_eight_letters(self):
        self.lines(Desk(), ("make abcdefgh ab (first a)", "ok"), ("kind abcdefgh", "digits"), ("kind abcdefg", NoName),
                   ("make names ab (first a)", "ok"), ("names", "names abcdefgh"))

    def test_order_of_errors(self):
        self.lines(Desk(), ("keep a  letters a|state 0|accepts", NoText), ("keep a  ", NoText),
                   ("keep a letters a|state 0|accepts ", NoText), ("keep a letters a|state 0|accepts|", NoText),
                   ("keep a letters a state 0 accepts", NoText), ("make a ab  (first a)", NoText),
                   ("make a ab  ", NoText), ("make a ab (first a) ", NoText), ("make a ba (first)", NoText),
                   ("make a ba (first a)", NoLetters), ("make a ab (first c)", NoSaying),
                   ("make a abcde (first a)", NoLetters), ("make a AB (first c)", NoLetters),
                   ("make a - (only -)", NoLetters), ("kind a", NoName), ("say a x", NoName), ("talk a XX x", NoName),
                   ("drop a", NoName), ("swap a", NoName), ("step", NoTalk), ("bits", NoTalk), ("answer", NoTalk),
                   ("undo", NothingDone), ("names", "none"), ("make a ab (first a)", "ok"), ("talk a AE x", NoDealing),
                   ("talk a AB x", NoRow), ("talk a AB abb", NoRow), ("talk a AB ax", NoRow), ("step", NoTalk),
                   ("say a a-", NoRow), ("say a ac", NoRow), ("say a A", NoRow), ("undo", "ok"), ("undo", NothingDone))

    def test_nothing_changes_by_a_line_that_raises(self):
        desk = Desk()
        self.lines(desk, ("make a ab (first a)", "ok"), ("talk a AB ab", "ok"), ("step", "A 01"))
        for line in ("keep a letters", "make a ab (first)", "make a ba (first a)", "make a a (first b)", "drop b",
                     "talk b AB ab", "talk a AX ab", "talk a AB a", "say a x", "kind b", "swap b", None, "nothing"):
            self.assertTrue(issubclass(self.told(desk, line), SaidError))
            self.assertEqual(desk.undoable(), 3)
            self.lines(desk, ("names", "a"), ("bits", "2"), ("answer", "open"), ("say a ab", "yes"))
        self.lines(desk, ("step", "B 01"), ("step", TalkOver), ("bits", "4"))
        self.assertEqual(desk.undoable(), 4)

    def test_undo_many_times(self):
        desk = Desk()
        self.assertEqual(desk.undoable(), 0)
        for many in range(300):
            self.lines(desk, (f"make {'ab'[many % 2]} ab (count a 6 {many % 6})", "ok"))
        self.assertEqual(desk.undoable(), 300)
        for many in range(299, 0, -1):
            self.lines(desk, ("undo", "ok"), (f"say {'ab'[(many - 1) % 2]} {'.' + 'a' * ((many - 1) % 6)}", "yes"))
            self.assertEqual(desk.undoable(), many)
        self.lines(desk, ("undo", "ok"), ("undo", NothingDone))

    def test_desks_do_not_meet(self):
        one, other = Desk(), Desk()
        self.lines(one, ("make a ab (first a)", "ok"), ("talk a AB ab", "ok"))
        self.lines(other, ("names", "none"), ("step", NoTalk), ("undo", NothingDone))


if __name__ == "__main__":
    unittest.main()
