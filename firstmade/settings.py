"""Settings: a book, and in what numbers it is played."""

from firstmade.books import is_book
from firstmade.counts import is_within
from firstmade.errors import NoBook, NoSetting

MOST_HANDS = 4
MOST_MAKES = 6
MOST_FAILS = 4


class Setting:
    """A book, how many hands go by it, and how often they may make and fail; a setting does not change."""

    def __init__(self, book, hands=2, *, makes=2, fails=1):
        if not is_book(book):
            raise NoBook(book)
        # Of late writes one hand is the writer: alone it has no reader.
        if not is_within(hands, 2 if book.way == "late" else 1, MOST_HANDS):
            raise NoSetting("hands")
        if not is_within(makes, 1, MOST_MAKES):
            raise NoSetting("makes")
        if not is_within(fails, 0, MOST_FAILS):
            raise NoSetting("fails")
        self._book = book.twin()
        self._hands = hands
        self._makes = makes
        self._fails = fails

    @property
    def hands(self):
        """How many hands there are."""
        return self._hands

    @property
    def makes(self):
        """How often a value of a first book may be made in all."""
        return self._makes

    @property
    def fails(self):
        """How often a making of a waking book may fail."""
        return self._fails

    @property
    def way(self):
        """The word of the kind of the book."""
        return self._book.way

    def book(self):
        """A twin of the book."""
        return self._book.twin()

    def switch(self, word):
        """The value of a switch of the book; the rules ask for it so often that a twin is too slow."""
        return self._book[word]

    def __eq__(self, other):
        if not isinstance(other, Setting) or not self._book == other._book:
            return False
        return self._hands == other._hands and self._makes == other._makes and self._fails == other._fails


def need_setting(setting):
    """Raises NoSetting(None) for what is no setting."""
    if not isinstance(setting, Setting):
        raise NoSetting(None)
