"""Verdicts: what holds of a book for any number of hands."""

from firstmade.books import FirstBook, LateBook, WakingBook, is_book
from firstmade.counts import is_within
from firstmade.errors import NoBook, NoNumber, NoValue
from firstmade.settings import MOST_HANDS


def is_safe_lock(book):
    """Whether a first book looks again behind a lock, before it makes."""
    return book.guard == "lock" and book.again != "never"


def can_use_two(book):
    """Whether two made things of a first book can both be used."""
    return book.guard not in ("claim", "swap") and not is_safe_lock(book)


def can_use_half(book):
    """Whether something half made of a first book can be used."""
    writes = book.writing.split()
    parts_first = book.look == "cell" or book.guard == "swap" or (
        # Here a later making can put its thing into the cell when the flag is set already.
        book.look == "flag" and (book.guard == "none" or book.guard == "lock" and book.again == "never"))
    flag_last = book.look == "flag" or book.guard == "claim"
    if parts_first and writes.index("parts") > writes.index("cell"):
        return True
    return flag_last and writes[-1] != "flag"


def can_be_stuck(book):
    """Whether a hand of a waking book can wait for ever."""
    if book.failure == "left":
        return True
    return not (book.wait == "spin" or book.wait == "sleep" and book.wake in ("all", "chain"))


def needed_fences(look):
    """The fewest fences that keep late writes from being seen half done."""
    return ("parts",) if look == "cell" else ("cell", "reads")


def can_see_half(book):
    """Whether something half written of a late book can be used."""
    return not all([fence in book.fences for fence in needed_fences(book.look)])


def first_faults(book):
    """The faults of a first book."""
    words = []
    if can_use_half(book):
        words.append("half")
    if can_use_two(book):
        words.append("twice")
    return words


def faults(book):
    """The words of the faults that settings of a book can come to; raises NoBook."""
    if not is_book(book):
        raise NoBook(book)
    if isinstance(book, FirstBook):
        return first_faults(book)
    if isinstance(book, WakingBook):
        return ["stuck"] if can_be_stuck(book) else []
    if isinstance(book, LateBook):
        return ["half"] if can_see_half(book) else []
    return [] if book.needs.ring() is None else ["itself", "stuck"]


def is_right(book):
    """Whether a book has no faults; raises NoBook."""
    return faults(book) == []


def most_makings(book, hands):
    """How often so many hands can make the value, None without a bound; raises NoBook, then NoNumber."""
    if not isinstance(book, FirstBook):
        raise NoBook(book)
    if not is_within(hands, 1, MOST_HANDS):
        raise NoNumber(hands)
    if book.guard == "claim" or is_safe_lock(book):
        return 1
    if book.look == "none" or book.look == "flag" and book.guard == "swap":
        return None
    return hands


def least_fences(look):
    """The least fences with which a late book is right that looks so; raises NoValue."""
    if not isinstance(look, str) or look not in ("cell", "flag"):
        raise NoValue("look")
    return needed_fences(look)
