"""The refusals, each straight under MannerError."""


class MannerError(ValueError):
    """Any refusal, made of a text."""

    def __init__(self, text):
        ValueError.__init__(self, text)


# The messages below are fixed: an error keeps what it is made of and looks at none of it.


class NoNet(MannerError):
    """A thing is no net: the word says why, the path of part numbers where."""

    def __init__(self, word, path):
        MannerError.__init__(self, "this is no net")
        self.word = word
        self.path = path


class NoText(MannerError):
    """Lines can't be read: the row is the first line that can't stand there."""

    def __init__(self, row):
        MannerError.__init__(self, "a line can't stand where it does")
        self.row = row


class NoMoment(MannerError):
    """A moment is not let: the number says by which part, or behind how many."""

    def __init__(self, number):
        MannerError.__init__(self, "this moment is not let")
        self.number = number


class TooMany(MannerError):
    """More than the bounds allow: the word says of what."""

    def __init__(self, word):
        MannerError.__init__(self, "there are too many")
        self.word = word


class NoJoin(MannerError):
    """Things can't be put together: the word says by what."""

    def __init__(self, word):
        MannerError.__init__(self, "this can't be joined")
        self.word = word


class NoAlike(MannerError):
    """A thing shows no likeness: the word says why, the number where."""

    def __init__(self, word, number):
        MannerError.__init__(self, "this shows no likeness")
        self.word = word
        self.number = number


class NoLeast(MannerError):
    """A thing shows no leastness: the word says why, the number where."""

    def __init__(self, word, number):
        MannerError.__init__(self, "this shows no leastness")
        self.word = word
        self.number = number


class NoWish(MannerError):
    """A thing shows nothing of a wish: the word says why, the number where."""

    def __init__(self, word, number):
        MannerError.__init__(self, "this shows nothing of the wish")
        self.word = word
        self.number = number


class NoTable(MannerError):
    """No net is put together for a table: the word says why."""

    def __init__(self, word):
        MannerError.__init__(self, "no net is built for this table")
        self.word = word


class NoBack(MannerError):
    """Nothing was seen that could be taken back; made of a text."""


class NoRow(MannerError):
    """A desk doesn't know such a row; made of a text."""
