"""The four kinds of books, each a set of switches with one value each.

The rules of the switches stand once, in firstmade/switches.py; each kind of book
defines all of its methods itself, and says there only which kind it is.
"""

from firstmade.switches import FIRST, LATE, NET, WAKING, checked, value_of, with_value, with_values


class Book:
    """What the four kinds of books are.

    book[word] is the value of a switch, book[word] = value gives it another one, and each
    switch is a property of its word, too. change() gives several switches other values, or
    none if one is wrong. way is the word of the kind. A book is iterated over for the words
    of its switches, which listed() lists; switches() lists the tuples (word, value). twin()
    is an equal book that goes on by itself. A word that is no switch raises NoSwitch, a
    value that a switch cannot have raises NoValue.
    """


class FirstBook(Book):
    """How hands look, guard, make and publish a value."""

    def __init__(self, *, look="cell", guard="lock", again="cell", writing="parts cell flag"):
        self._values = checked(FIRST, {"look": look, "guard": guard, "again": again, "writing": writing})

    def __getitem__(self, at):
        return value_of(self._values, at)

    def __setitem__(self, at, worth):
        self._values = with_value(FIRST, self._values, at, worth)

    def change(self, **values):
        self._values = with_values(FIRST, self._values, values)

    def __iter__(self):
        return iter(self._values)

    def __len__(self):
        return len(self._values)

    def __eq__(self, other):
        return isinstance(other, FirstBook) and self._values == other._values

    def listed(self):
        return list(self._values)

    def switches(self):
        return list(self._values.items())

    def twin(self):
        return FirstBook(**self._values)

    @property
    def way(self):
        return "first"

    @property
    def look(self):
        return self._values["look"]

    @look.setter
    def look(self, value):
        self["look"] = value

    @property
    def guard(self):
        return self._values["guard"]

    @guard.setter
    def guard(self, value):
        self["guard"] = value

    @property
    def again(self):
        return self._values["again"]

    @again.setter
    def again(self, value):
        self["again"] = value

    @property
    def writing(self):
        return self._values["writing"]

    @writing.setter
    def writing(self, value):
        self["writing"] = value

    @staticmethod
    def twofold():
        """The book that looks at the cell, and again behind the lock."""
        return FirstBook()

    @staticmethod
    def bare():
        """The book without a guard."""
        return FirstBook(guard="none", again="never")


class WakingBook(Book):
    """How a making fails, and how hands wait and are woken."""

    def __init__(self, *, failure="again", wait="sleep", wake="all"):
        self._values = checked(WAKING, {"failure": failure, "wait": wait, "wake": wake})

    def __getitem__(self, at):
        return value_of(self._values, at)

    def __setitem__(self, at, worth):
        self._values = with_value(WAKING, self._values, at, worth)

    def change(self, **values):
        self._values = with_values(WAKING, self._values, values)

    def __iter__(self):
        return iter(self._values)

    def __len__(self):
        return len(self._values)

    def __eq__(self, other):
        return isinstance(other, WakingBook) and self._values == other._values

    def listed(self):
        return list(self._values)

    def switches(self):
        return list(self._values.items())

    def twin(self):
        return WakingBook(**self._values)

    @property
    def way(self):
        return "waking"

    @property
    def failure(self):
        return self._values["failure"]

    @failure.setter
    def failure(self, value):
        self["failure"] = value

    @property
    def wait(self):
        return self._values["wait"]

    @wait.setter
    def wait(self, value):
        self["wait"] = value

    @property
    def wake(self):
        return self._values["wake"]

    @wake.setter
    def wake(self, value):
        self["wake"] = value


class LateBook(Book):
    """Where the writer and the readers of late writes have fences."""

    def __init__(self, *, look="cell", fences=("parts",)):
        self._values = checked(LATE, {"look": look, "fences": fences})

    def __getitem__(self, at):
        return value_of(self._values, at)

    def __setitem__(self, at, worth):
        self._values = with_value(LATE, self._values, at, worth)

    def change(self, **values):
        self._values = with_values(LATE, self._values, values)

    def __iter__(self):
        return iter(self._values)

    def __len__(self):
        return len(self._values)

    def __eq__(self, other):
        return isinstance(other, LateBook) and self._values == other._values

    def listed(self):
        return list(self._values)

    def switches(self):
        return list(self._values.items())

    def twin(self):
        return LateBook(**self._values)

    @property
    def way(self):
        return "late"

    @property
    def look(self):
        return self._values["look"]

    @look.setter
    def look(self, value):
        self["look"] = value

    @property
    def fences(self):
        return self._values["fences"]

    @fences.setter
    def fences(self, value):
        self["fences"] = value

    def __le__(self, other):
        """Whether the look is the same, and each fence is one of the other book."""
        if not isinstance(other, LateBook):
            return NotImplemented
        others = other.fences
        return self.look == other.look and all([fence in others for fence in self.fences])


class NetBook(Book):
    """How the values of a net are guarded."""

    def __init__(self, needs, *, guard="own"):
        self._values = checked(NET, {"guard": guard, "needs": needs})

    def __getitem__(self, at):
        return value_of(self._values, at)

    def __setitem__(self, at, worth):
        self._values = with_value(NET, self._values, at, worth)

    def change(self, **values):
        self._values = with_values(NET, self._values, values)

    def __iter__(self):
        return iter(self._values)

    def __len__(self):
        return len(self._values)

    def __eq__(self, other):
        return isinstance(other, NetBook) and self._values == other._values

    def listed(self):
        return list(self._values)

    def switches(self):
        return list(self._values.items())

    def twin(self):
        return NetBook(**self._values)

    @property
    def way(self):
        return "net"

    @property
    def guard(self):
        return self._values["guard"]

    @guard.setter
    def guard(self, value):
        self["guard"] = value

    @property
    def needs(self):
        return self._values["needs"]

    @needs.setter
    def needs(self, value):
        self["needs"] = value


def is_book(value):
    """Whether any value is a book of one of the four kinds."""
    return isinstance(value, (FirstBook, WakingBook, LateBook, NetBook))
