"""A console: a setting and a bench of it, asked and changed by lines of words."""

from firstmade.benches import Bench
from firstmade.books import FirstBook
from firstmade.breaking import MOST_MET, breaking
from firstmade.counts import is_digit
from firstmade.errors import NoBook, NoFault, NoMove, NoNote, NoSetting, NoSwitch, NothingBack, NoValue, TooMany
from firstmade.notes import book_of, setting_of, switch_value
from firstmade.searches import shortest, stuck_hands
from firstmade.settings import Setting
from firstmade.verdicts import faults, most_makings

UNKNOWN = "unknown"
ERROR = "error"
OPEN = "open"


def listing(rows):
    """The words or numbers in one text, or that there are none."""
    return " ".join([str(row) for row in rows]) if rows else "none"


class Console:
    """Answers lines: a setting that they set, and a bench on which they play it."""

    def __init__(self):
        self._setting = Setting(FirstBook())
        self._bench = Bench(self._setting)

    def run(self, line):
        """The answer to a line; raises NoNote(None) for what is no text."""
        if not isinstance(line, str):
            raise NoNote(None)
        first, *rest = line.split(" ")
        # Words are joined by one blank each: none of them is empty.
        if "" in rest:
            return UNKNOWN
        if first == "book" and rest:
            return self._renew(book_of(rest))
        if first == "set" and len(rest) == 2:
            return self._set(rest[0], rest[1])
        if first == "hands" and len(rest) == 3 and all([is_digit(word) for word in rest]):
            return self._begin(setting_of(self._setting.book(), [first, *rest]))
        if first == "break" and len(rest) == 1:
            return self._broken(rest[0])
        if is_digit(first) and len(rest) == 1:
            return self._move((int(first), rest[0]))
        return UNKNOWN if rest else self._told(first)

    def _begin(self, setting):
        """Begins anew with a setting, unless it is None."""
        if setting is None:
            return ERROR
        self._setting = setting
        self._bench = Bench(setting)
        return "ok"

    def _renew(self, book):
        """Begins anew with a book, unless it is None or cannot be played by so many hands."""
        if book is None:
            return ERROR
        old = self._setting
        try:
            setting = Setting(book, old.hands, makes=old.makes, fails=old.fails)
        except NoSetting:
            return ERROR
        return self._begin(setting)

    def _set(self, word, text):
        """Gives a switch of the book another value."""
        book = self._setting.book()
        try:
            book[word] = switch_value(word, text)
        except (NoSwitch, NoValue):
            return ERROR
        return self._renew(book)

    def _move(self, move):
        """Makes a move."""
        try:
            self._bench(move)
        except NoMove:
            return ERROR
        fault = self._bench.fault
        return "ok" if fault is None else fault[0]

    def _broken(self, word):
        """How many moves the run has that shows a fault of the book."""
        try:
            _, run = breaking(self._setting.book(), word)
        except NoFault:
            return "none"
        return str(len(run))

    def _told(self, word):
        """The answer to a line of one word."""
        if word == "back":
            return self._back()
        if word == "moves":
            return str(len(self._bench.moves()))
        if word == "made":
            return str(len(self._bench))
        if word == "faults":
            return listing(faults(self._setting.book()))
        if word == "shortest":
            return self._shortest()
        if word == "stuck":
            return self._stuck()
        return self._most() if word == "most" else UNKNOWN

    def _back(self):
        """Takes the last move back."""
        try:
            self._bench.back()
        except NothingBack:
            return "nothing"
        return "ok"

    def _shortest(self):
        """How many moves a shortest run to a fault has."""
        try:
            run = shortest(self._setting)
        except TooMany:
            return OPEN
        return "none" if run is None else str(len(run))

    def _stuck(self):
        """The hands that are stuck now."""
        try:
            return listing(stuck_hands(self._setting, self._bench.state(), most=MOST_MET))
        except TooMany:
            return OPEN

    def _most(self):
        """How often the hands can make the value."""
        try:
            most = most_makings(self._setting.book(), self._setting.hands)
        except NoBook:
            return ERROR
        return "none" if most is None else str(most)
