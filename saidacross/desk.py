"""The desk: it keeps machines and a talk, and works by lines."""

from saidacross.desklines import parts_of
from saidacross.errors import NoName, NoRow, NoTalk, NothingDone
from saidacross.forms import is_word
from saidacross.kinds import kind, swap
from saidacross.machines import says
from saidacross.sayings import machine_of
from saidacross.sayingtexts import read_saying
from saidacross.talks import Talk, cheapest
from saidacross.texts import read_machine, talk_text


class Desk:
    """Machines under names, a talk, and what can be taken back."""

    def __init__(self):
        self._machines = {}
        self._talk = None
        # For each line that can be taken back the machines and the talk ahead of it, and how
        # many messages were said. A dict of machines is never changed, but replaced.
        self._past = []

    def tell(self, line):
        """Does one line and returns what it tells."""
        parts = parts_of(line)
        if parts[0] == "undo":
            return self._undo()
        if parts[0] in ("keep", "make", "drop", "talk", "step"):
            before = (self._machines, self._talk, self._said())
            told = self._do(parts)
            self._past.append(before)
            return told
        return self._asked(parts)

    def undoable(self):
        """How many lines can be taken back."""
        return len(self._past)

    def _do(self, parts):
        """Does a line that can be taken back."""
        if parts[0] == "step":
            return talk_text([self._open_talk().step()])
        if parts[0] == "talk":
            machine = self._machine(parts[1])
            self._talk = Talk(machine, parts[2], parts[3], cheapest(machine, parts[2]))
        elif parts[0] == "keep":
            self._keep(parts[1], read_machine(parts[2].replace("|", "\n")))
        elif parts[0] == "make":
            saying = read_saying(parts[3])
            self._keep(parts[1], machine_of(parts[2], saying))
        else:
            self._machine(parts[1])
            machines = self._machines
            self._machines = {name: machines[name] for name in machines if name != parts[1]}
        return "ok"

    def _asked(self, parts):
        """What a line that changes nothing tells."""
        if parts[0] == "names":
            names = sorted(list(self._machines), key=lambda name: (len(name), name))
            return " ".join(names) if len(names) > 0 else "none"
        if parts[0] == "bits":
            return str(self._open_talk().bits())
        if parts[0] == "answer":
            answer = self._open_talk().answer()
            return "open" if answer is None else _yes_or_no(answer)
        machine = self._machine(parts[1])
        if parts[0] == "kind":
            return kind(machine)
        if parts[0] == "swap":
            found = swap(machine)
            return "none" if found is None else " ".join([word or "-" for word in found])
        if not is_word(machine.letters() + ".", parts[2]):
            raise NoRow()
        return _yes_or_no(says(machine, parts[2].replace(".", "")))

    def _undo(self):
        """Takes back the last line that can be taken back."""
        if len(self._past) == 0:
            raise NothingDone()
        self._machines, self._talk, said = self._past.pop()
        # Only a step has gone on with a talk: an elder one stands where it was left.
        if self._talk is not None:
            self._talk.back(self._said() - said)
        return "ok"

    def _keep(self, name, machine):
        """Keeps the machine under this name."""
        machines = dict(self._machines)
        machines[name] = machine
        self._machines = machines

    def _machine(self, name):
        """The machine of this name."""
        if name not in self._machines:
            raise NoName()
        return self._machines[name]

    def _open_talk(self):
        """The talk of the desk."""
        if self._talk is None:
            raise NoTalk()
        return self._talk

    def _said(self):
        """How many messages of the talk were said."""
        return 0 if self._talk is None else len(self._talk.heard())


def _yes_or_no(flag):
    """The word for a flag."""
    return "yes" if flag else "no"
