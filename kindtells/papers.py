"""Papers tell an answer and what shows it; denials are papers that say no."""


def fixed(value):
    """The value with each list in it as a tuple, all the way in."""
    if isinstance(value, (list, tuple)):
        return tuple([fixed(item) for item in value])
    return value


class Paper:
    """A paper with this word; true, if it is no denial."""

    def __init__(self, word, *parts):
        self.word = word
        self.parts = fixed(parts)

    def __eq__(self, other):
        return type(self) is type(other) and self.word == other.word and self.parts == other.parts

    def __bool__(self):
        return True


class Denial(Paper):
    """A paper that says no: it is false."""

    # Its own methods, though they are a Paper's: the interface lists them for this class, too.

    def __init__(self, word, *parts):
        self.word = word
        self.parts = fixed(parts)

    def __eq__(self, other):
        return type(self) is type(other) and self.word == other.word and self.parts == other.parts

    def __bool__(self):
        return False
