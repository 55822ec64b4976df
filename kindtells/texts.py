"""Texts: strings of items with single blanks between."""

from kindtells.errors import BadText


def spaced(numbers):
    """The numbers, written with single blanks between."""
    return " ".join([str(number) for number in numbers])


class Items:
    """The items of a text, taken one behind another; BadText for the first that cannot stand."""

    def __init__(self, text):
        if not isinstance(text, str):
            raise BadText(0, 0)
        self.words = text.split(" ")
        self.taken = 0

    def stands(self, word):
        """Whether just this word is the next item."""
        return self.taken < len(self.words) and self.words[self.taken] == word

    def take(self, word):
        """Take the next item, which must be this word."""
        if not self.stands(word):
            raise BadText(0, self.taken)
        self.taken += 1

    def take_number(self, least, most):
        """Take the next item, which must be an integer from least to most; return this."""
        for number in range(least, most + 1):
            if self.stands(str(number)):
                self.taken += 1
                return number
        raise BadText(0, self.taken)

    def take_end(self):
        """There must be no item left."""
        if self.taken < len(self.words):
            raise BadText(0, self.taken)
