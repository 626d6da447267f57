"""The errors of the package."""


class SaidError(ValueError):
    """What each error of the package is."""


class NoMachine(SaidError):
    """A part of a machine, `part`, is not as it must be."""

    def __init__(self, part):
        self.part = part


class TooMany(SaidError):
    """There are more than `most` of what is counted."""

    def __init__(self, most):
        self.most = most


class NoWord(SaidError):
    """It is not a word of the letters that are asked for."""


class NoNumber(SaidError):
    """It is not an integer of the range that is asked for."""


class OtherLetters(SaidError):
    """Two machines have unlike letters."""


class NoDeed(SaidError):
    """It is not a tuple with a state for each state of the least machine."""


class NoLot(SaidError):
    """It is not a string of one or more different letters, ascending."""


class NoDealing(SaidError):
    """It is not a dealing."""


class NoRow(SaidError):
    """It is not a row of the dealing."""


class NoHand(SaidError):
    """It is not one of the hands of the dealing."""


class NoRows(SaidError):
    """It is not a list of a row for each hand."""


class TalkOver(SaidError):
    """The answer is known: there is no message to come."""


class NoWritings(SaidError):
    """It is not a list of what a hand may write."""


class NoTable(SaidError):
    """It is not a table of integers."""


class IsFixed(SaidError):
    """The letters of the machine may change places."""


class NotLength(SaidError):
    """The machine is not of the kind "length"."""


class NoMark(SaidError):
    """It is not a mark block of the machine."""


class NoTurn(SaidError):
    """A stranger told neither a hand nor an answer."""


class NoBit(SaidError):
    """A stranger told no bit."""


class NoLetters(SaidError):
    """It is not a string of letters as it is asked for."""


class NoSaying(SaidError):
    """It is not a saying of the letters."""


class NoBook(SaidError):
    """The machine has no book."""


class NoCounts(SaidError):
    """It is not a tuple of a count for each letter of the lot."""


class NoLetter(SaidError):
    """It is not a letter of the lot."""


class NoWay(SaidError):
    """It is not a way to talk that there is for the machine."""


class NoOwners(SaidError):
    """It is not a dict from the letters of the machine to hands."""


class NotOwned(SaidError):
    """Two letters of unlike hands may not change places."""


class NoPlace(SaidError):
    """It is not a place of the row."""


class NoSign(SaidError):
    """It is neither a letter of the machine nor an empty place."""


class NoAccount(SaidError):
    """It is not an account."""


class NoWords(SaidError):
    """It is not a dict from new letters to words of the machine."""


class NoKind(SaidError):
    """It is not a kind that can be asked for."""


class NoText(SaidError):
    """It is not the text of what is to be read."""


class NoMessages(SaidError):
    """It is not a list of messages."""


class NoLine(SaidError):
    """It is not a line that the desk knows."""


class NoName(SaidError):
    """The desk keeps no machine of this name."""


class NoTalk(SaidError):
    """The desk has no talk."""


class NothingDone(SaidError):
    """There is nothing that can be taken back."""
