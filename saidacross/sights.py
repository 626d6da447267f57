"""A row from one of its ends, as hands see it."""

from saidacross.dealings import stretches


class Sights:
    """The signs of a row with their hands, and with the numbers of their stretches.

    A hand looks only for its own letters in a part of the row. Where this part begins or
    ends inside of a stretch, its own hand alone knows the place; the others know which
    stretch it is, and that is enough for them, as they have no places there.
    """

    def __init__(self, dealing, row):
        self._dealing = dealing
        self._row = row
        self._numbers = []
        # The hands of the stretches, in their order.
        self.holders = []
        for hand, many in stretches(dealing):
            self._numbers.extend([len(self.holders)] * many)
            self.holders.append(hand)

    def places(self, hand, letter, low, high):
        """The places from `low` up to `high`, this one left out, where the hand has the letter."""
        return [at for at in range(low, high)
                if self._row[at] == letter and self._dealing[at] == hand]

    def first_stretch(self, hand, letter, low, high):
        """The number of the stretch of the first such place; the number of all if there is none."""
        found = self.places(hand, letter, low, high)
        return self._numbers[found[0]] if len(found) > 0 else len(self.holders)
