"""What is said aloud: numbers by bits."""


class Voices:
    """The messages of the hands, one behind the other, in the list `messages`."""

    def __init__(self):
        self.messages = []

    def say(self, hand, numbers, width):
        """The hand says these numbers with so many bits each; returns them as they are heard."""
        bits = "".join([_bits(number, width) for number in numbers])
        # Who has nothing to say is not asked: a message has one bit or more.
        if bits != "":
            self.messages.append((hand, bits))
        return numbers


def figures(number):
    """How many binary digits an integer from 1 on has."""
    return number.bit_length()


def width_for(many):
    """How many bits tell which one it is of so many, 1 or more."""
    return (many - 1).bit_length()


def _bits(number, width):
    """The number by so many binary digits."""
    signs = []
    left = number
    for _ in range(width):
        signs.append(str(left % 2))
        left = left // 2
    return "".join(reversed(signs))
