"""Changes of books: the picks of least cost that make a book right."""

from firstmade.books import FirstBook, LateBook, WakingBook
from firstmade.breaking import breaking
from firstmade.counts import is_number, is_within
from firstmade.errors import NoBook, NoChange, NoPick, NoSwitch, NoValue
from firstmade.nets import selections
from firstmade.verdicts import faults, is_right

MOST_CHANGES = 6
MOST_COST = 1000


def is_change(book, change):
    """Whether any value is a change of a book."""
    if not isinstance(change, tuple) or len(change) != 3:
        return False
    word, value, cost = change
    trial = book.twin()
    try:
        trial[word] = value
    except (NoSwitch, NoValue):
        return False
    return is_within(cost, 0, MOST_COST)


def need_changes(book, changes):
    """Raises NoBook for net books, too, then NoChange."""
    if not isinstance(book, (FirstBook, WakingBook, LateBook)):
        raise NoBook(book)
    if not isinstance(changes, (list, tuple)) or len(changes) > MOST_CHANGES:
        raise NoChange(None)
    for at, change in enumerate(changes):
        if not is_change(book, change):
            raise NoChange(at)


def is_pick(changes, pick):
    """Whether any value is an ascending tuple of numbers of changes, no two of one switch."""
    if not isinstance(pick, tuple) or not all([is_within(at, 0, len(changes) - 1) for at in pick]):
        return False
    words = [changes[at][0] for at in pick]
    return list(pick) == sorted(pick, key=int) and len(set(words)) == len(words)


def with_picked(book, changes, pick):
    """A new book with the picked values."""
    new = book.twin()
    for at in pick:
        word, value, _ = changes[at]
        new[word] = value
    return new


def picked(book, changes, pick):
    """A new book with the picked values; raises NoBook, NoChange, NoPick."""
    need_changes(book, changes)
    if not is_pick(changes, pick):
        raise NoPick(pick)
    return with_picked(book, changes, pick)


def picks(book, changes):
    """All picks, by their number of changes, then by the numbers; raises NoBook, NoChange."""
    need_changes(book, changes)
    places = list(range(len(changes)))
    for many in range(len(changes) + 1):
        for pick in selections(places, many):
            if is_pick(changes, pick):
                yield pick


def price(changes, pick):
    """The sum of the costs of a pick."""
    return sum([changes[at][2] for at in pick])


class Changes:
    """The picks of least cost with which a book is right, in the order of picks; they do not change."""

    def __init__(self, book, changes):
        self._picks = list(picks(book, changes))
        self._book = book.twin()
        self._changes = list(changes)
        right = [pick for pick in self._picks if is_right(with_picked(book, changes, pick))]
        self._cost = min([int(price(changes, pick)) for pick in right], default=None)
        self._least = [pick for pick in right if price(changes, pick) == self._cost]

    @property
    def cost(self):
        """The least cost, None if no pick makes the book right."""
        return self._cost

    def listed(self):
        """What changes are iterated over for: the picks of least cost."""
        return list(self._least)

    def __iter__(self):
        return iter(self._least)

    def __len__(self):
        return len(self._least)

    def __contains__(self, x):
        # A truth is no number, although it is equal to one.
        return isinstance(x, tuple) and all([is_number(at) for at in x]) and x in self._least

    def floor(self):
        """For all cheaper picks a tuple (pick, word, setting, run): their first fault, and what breaks them."""
        rows = []
        for pick in self._picks:
            if self._cost is None or price(self._changes, pick) < self._cost:
                book = with_picked(self._book, self._changes, pick)
                word = faults(book)[0]
                setting, run = breaking(book, word)
                rows.append((pick, word, setting, run))
        return rows
