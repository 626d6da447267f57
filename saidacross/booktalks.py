"""Talks by "book": the row is cut into pieces until few numbers tell what it does."""

from saidacross.lots import lots_of
from saidacross.pieces import turns
from saidacross.sights import Sights
from saidacross.voices import figures, width_for


class Lore:
    """What the hands know of a machine with a book.

    `doings` are its deeds. For each lot `depths` tells how many full pieces at each end of a
    word are enough, and `moduli` modulo which number the letters between them count.
    """

    def __init__(self, doings, pages):
        self.doings = doings
        self.depths = {lot: pages[lot][0] for lot in pages}
        self.moduli = {lot: turns(doings, lot, doings.number(pages[lot][1])) for lot in pages}


class BookTalk:
    """A talk about a row. A part of it goes from a place up to a place, this one left out."""

    def __init__(self, lore, dealing, row, voices):
        self._lore = lore
        self._voices = voices
        self._row = row
        self._hands = sorted(set(dealing))
        self._ahead = Sights(dealing, row)
        self._behind = Sights(dealing[::-1], row[::-1])

    def part_deed(self, low, high, letters):
        """The number of the deed of a part that has no other letters than these."""
        have = self._letters_of_hands(low, high, letters)
        own = "".join(list(have.values()))
        lot = "".join([letter for letter in letters if letter in own])
        if lot == "":
            return 0
        depth = self._lore.depths[lot]
        ends, gone = self._ends(self._ahead, have, low, high, 2 * depth)
        if gone == "":
            ends = ends[:depth]
            begins = self._begins(have, low, high, depth)
            numbers = self._up_to(low, ends, lot)
            numbers.extend(self._counted(have, lot, ends[-1] + 1, begins[0]))
            numbers.extend(self._from_on(begins, high, lot))
        else:
            # There is one piece, as all letters of the lot stand in the part.
            numbers = self._up_to(low, ends, lot)
            numbers.append(self.part_deed(ends[-1] + 1, high, _less(lot, gone)))
        return self._lore.doings.run(numbers)

    def _letters_of_hands(self, low, high, letters):
        """A dict from the hands to those of the letters that they have in the part."""
        have = {}
        for hand in self._hands:
            flags = [min(1, len(self._ahead.places(hand, letter, low, high)))
                     for letter in letters]
            told = self._voices.say(hand, flags, 1)
            have[hand] = "".join([letter for letter, flag in zip(letters, told) if flag == 1])
        return have

    def _ends(self, sights, have, low, high, most):
        """The places at which full pieces end, at most so many, and the letters that are gone.

        These are the letters of which the next piece would have none, if there are fewer.
        """
        found = []
        begin = low
        while len(found) < most:
            end, gone = self._next_end(sights, have, begin, high)
            if gone != "":
                return found, gone
            found.append(end)
            begin = end + 1
        return found, ""

    def _next_end(self, sights, have, low, high):
        """The place at which the first full piece ends, and the letters that are gone."""
        none = len(sights.holders)
        firsts = {}
        for hand in self._hands:
            numbers = [sights.first_stretch(hand, letter, low, high) for letter in have[hand]]
            told = self._voices.say(hand, numbers, figures(none))
            for letter, number in zip(have[hand], told):
                firsts[letter] = min(number, firsts.get(letter, none))
        last = max(list(firsts.values()))
        latest = [letter for letter in firsts if firsts[letter] == last]
        if last == none:
            return low, "".join(latest)
        # Its hand alone sees the order of the letters in the last one of these stretches.
        hand = sights.holders[last]
        places = [sights.places(hand, letter, low, high)[0] for letter in latest]
        told = self._voices.say(hand, [places.index(max(places))], width_for(len(latest)))
        return places[told[0]], ""

    def _begins(self, have, low, high, depth):
        """The places at which so many full pieces begin, cut from the right."""
        size = len(self._row)
        ends, _ = self._ends(self._behind, have, size - high, size - low, depth)
        return [size - 1 - end for end in reversed(ends)]

    def _up_to(self, low, ends, lot):
        """The numbers of the deeds of the pieces that end at these places."""
        numbers = []
        begin = low
        for end in ends:
            last = self._row[end]
            numbers.append(self.part_deed(begin, end, _less(lot, last)))
            numbers.append(self._lore.doings.number(last))
            begin = end + 1
        return numbers

    def _from_on(self, begins, high, lot):
        """The numbers of the deeds of the pieces that begin at these places."""
        numbers = []
        for begin, end in zip(begins, begins[1:] + [high]):
            first = self._row[begin]
            numbers.append(self._lore.doings.number(first))
            numbers.append(self.part_deed(begin + 1, end, _less(lot, first)))
        return numbers

    def _counted(self, have, lot, low, high):
        """The numbers of the deeds of letters that stand for those of a part."""
        many = self._lore.moduli[lot]
        counts = {letter: 0 for letter in lot}
        for hand in self._hands:
            numbers = [len(self._ahead.places(hand, letter, low, high)) % many
                       for letter in have[hand]]
            told = self._voices.say(hand, numbers, width_for(many))
            for letter, number in zip(have[hand], told):
                counts[letter] += number
        doings = self._lore.doings
        return [doings.times(doings.number(letter), counts[letter]) for letter in lot]


def most_book_bits(lore, letters, hands, many):
    """How many bits so many hands say at most of a row of so many stretches."""
    inside = {"": 0}
    for lot in lots_of(letters):
        inside[lot] = _most_inside(lore, inside, lot, hands, figures(many))
    return _most_of_part(inside, letters, hands)


def _most_inside(lore, inside, lot, hands, width):
    """How many bits are said at most of a part whose letters are the lot, once this is known."""
    depth = lore.depths[lot]
    end = hands * len(lot) * width + width_for(len(lot))
    part = max([_most_of_part(inside, _less(lot, letter), hands) for letter in lot])
    counts = hands * len(lot) * width_for(lore.moduli[lot])
    return 3 * depth * end + 2 * depth * part + counts


def _most_of_part(inside, letters, hands):
    """How many bits are said at most of a part that has no other letters than these."""
    most = max([inside[lot] for lot in inside if _less(lot, letters) == ""])
    return hands * len(letters) + most


def _less(lot, letters):
    """The lot without these letters."""
    return "".join([letter for letter in lot if letter not in letters])
