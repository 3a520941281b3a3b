"""The errors of the package.

Each keeps the argument that it is made of under the name of that argument.
"""


class MadeError(ValueError):
    """What the package raises for arguments that are not such as it asks for."""


class NoValue(MadeError):
    """A switch, or another word, has none of its values."""

    def __init__(self, word):
        self.word = word


class NoSwitch(MadeError):
    """A book has no switch of this word."""

    def __init__(self, word):
        self.word = word


class NoBook(MadeError):
    """This is no book, or none of the kinds that are asked for."""

    def __init__(self, value):
        self.value = value


class NoSetting(MadeError):
    """This number of a setting is none, or (None) there is no setting."""

    def __init__(self, word):
        self.word = word


class NoMove(MadeError):
    """The move at this index is not possible, or (None) there is no run."""

    def __init__(self, index):
        self.index = index


class NothingBack(MadeError):
    """So many moves cannot be taken back."""

    def __init__(self, many):
        self.many = many


class NoName(MadeError):
    """This is no name, or not the name of a value that is there."""

    def __init__(self, name):
        self.name = name


class NoNet(MadeError):
    """The needs of this name make no net, or (None) all of them."""

    def __init__(self, name):
        self.name = name


class NoTable(MadeError):
    """These are no states, or this is no table."""

    def __init__(self, states):
        self.states = states


class NoChange(MadeError):
    """The change at this index is none, or (None) there are no changes."""

    def __init__(self, at):
        self.at = at


class NoPick(MadeError):
    """This is no pick of the changes."""

    def __init__(self, pick):
        self.pick = pick


class NoNote(MadeError):
    """The row of this number is not written as a note is, or (None) no row."""

    def __init__(self, line):
        self.line = line


class NoNumber(MadeError):
    """This is no such number as is asked for."""

    def __init__(self, value):
        self.value = value


class NoFault(MadeError):
    """The book has no fault of this word."""

    def __init__(self, word):
        self.word = word


class Failing(MadeError):
    """Raised by a making, to tell that it has failed."""

    def __init__(self, why):
        self.why = why


class TooMany(OverflowError):
    """There are more things than this."""

    def __init__(self, most):
        self.most = most


class NoHand(KeyError):
    """This is no number of a hand."""

    def __init__(self, hand):
        self.hand = hand


class Failed(RuntimeError):
    """A value is not there, since its making failed."""

    def __init__(self, why):
        self.why = why
