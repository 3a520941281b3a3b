"""What several tests use: settings of each kind of book, and values that are no numbers, settings and books."""

from firstmade.books import Book, FirstBook, LateBook, NetBook, WakingBook
from firstmade.nets import Net
from firstmade.settings import Setting
from tests.odd_values import Alike, Touchy, odd_values

SELF_NET = NetBook(Net({"a": ("a",)}))
RING = NetBook(Net({"a": ("b",), "b": ("a",)}))
RIGHT_NET = NetBook(Net({"a": ("b",), "b": ()}))
SETTINGS = [
    Setting(FirstBook()), Setting(FirstBook.bare(), 3), Setting(FirstBook(look="flag", guard="claim"), 2, makes=1),
    Setting(FirstBook(look="none", guard="swap", writing="cell parts flag"), makes=3),
    Setting(FirstBook(look="flag", guard="none", again="never", writing="flag parts cell")),
    Setting(WakingBook()), Setting(WakingBook(wake="none"), 2), Setting(WakingBook(wait="doze", wake="chain"), 3),
    Setting(WakingBook(failure="left"), 3, fails=2), Setting(WakingBook(wake="one"), 3, fails=0),
    Setting(WakingBook(wait="spin"), 1), Setting(LateBook()), Setting(LateBook(fences=()), 3),
    Setting(LateBook(look="flag", fences=("cell",)), 2), Setting(LateBook(look="flag", fences=("cell", "reads")), 3),
    Setting(SELF_NET, 2), Setting(RING, 2), Setting(RING, 1), Setting(RIGHT_NET, 3),
    Setting(NetBook(Net({"a": ("b", "c"), "b": ("c",), "c": ("b",), "d": ()}), guard="one"), 2),
]
# With four hands, runs of this net come to very many states.
WIDE_NET = Net({"a": ("b", "c", "d", "e"), "b": ("c", "d", "e"), "c": ("d", "e"), "d": ("e",), "e": ()})
# None of these is a number from 1.
NO_NUMBERS = [value for value in odd_values() if isinstance(value, bool) or not isinstance(value, int)]
NO_NUMBERS += [0, -1, -10 ** 50, 2000.0, "2000", "", [1], (1,), {1: 1}, Alike(), Touchy()]
NO_SETTINGS = odd_values() + [FirstBook(), Setting, (FirstBook(), 2, 2, 1), {"book": FirstBook()}]
NO_BOOKS = odd_values() + ["first", "first cell lock cell parts+cell+flag", FirstBook, Book, Book(), Net({"a": ()}),
                           Setting(FirstBook()), FirstBook().switches(), dict(FirstBook().switches())]
