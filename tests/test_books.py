"""Books: every switch with right and wrong values, in every way of setting it."""

import unittest
from itertools import permutations

from firstmade.books import Book, FirstBook, LateBook, NetBook, WakingBook
from firstmade.errors import NoSwitch, NoValue
from firstmade.nets import Net
from tests.odd_values import odd_values

NET = Net({"a": ("b",), "b": ()})
RING = Net({"a": ("a",)})

FIRST = {
    "look": ["cell", "flag", "none"],
    "guard": ["none", "lock", "claim", "swap"],
    "again": ["never", "cell", "flag"],
    "writing": [" ".join(row) for row in permutations(("parts", "cell", "flag"))],
}
WAKING = {
    "failure": ["again", "kept", "left"],
    "wait": ["spin", "sleep", "doze"],
    "wake": ["all", "one", "chain", "none"],
}
LATE = {
    "look": ["cell", "flag"],
    "fences": [(), ("parts",), ("cell",), ("reads",), ("parts", "cell"), ("parts", "reads"), ("cell", "reads"),
               ("parts", "cell", "reads")],
}
NETS = {"guard": ["own", "one"], "needs": [NET, RING, Net({"b": ()})]}

FIRST_AS_BORN = [("look", "cell"), ("guard", "lock"), ("again", "cell"), ("writing", "parts cell flag")]
WAKING_AS_BORN = [("failure", "again"), ("wait", "sleep"), ("wake", "all")]
LATE_AS_BORN = [("look", "cell"), ("fences", ("parts",))]
NET_AS_BORN = [("guard", "own"), ("needs", NET)]


def net_book(needs=NET, **more):
    return NetBook(needs, **more)


KINDS = (
    (FirstBook, "first", FIRST, FIRST_AS_BORN),
    (WakingBook, "waking", WAKING, WAKING_AS_BORN),
    (LateBook, "late", LATE, LATE_AS_BORN),
    (net_book, "net", NETS, NET_AS_BORN),
)

WORDS = sorted({word for _, _, table, _ in KINDS for word in table})
TEXTS = sorted({value for _, _, table, _ in KINDS for row in table.values() for value in row
                if isinstance(value, str)})
TUPLES = [("parts", "parts"), ("cell", "parts"), ("reads", "cell"), ("reads", "parts"), ("cell", "reads", "parts"),
          ("flag",), ("parts", "flag"), ("Parts",), ("parts", "cell", "reads", "reads"), ("parts cell",),
          (("parts",),), ("parts", None), ("cell",), ("parts", "cell", "reads"), ()]
OTHERS = ["parts", "cell parts", "parts flag", "parts cell", "parts cell flag ", "parts  cell flag", "flag cell",
          "parts parts cell", "parts cell cell", "parts+cell+flag", "Cell", "ALL", "first", "-", "a=", ["parts"],
          ["own"], {"a": ()}, {"a": ("b",), "b": ()}, NetBook, Net, NetBook(NET), FirstBook()]


def wrong_values(row):
    """Values of any kind, but for those of the row."""
    def is_right(value):
        return any(type(value) is type(right) and value == right for right in row)

    rows = [value for value in TEXTS + TUPLES + OTHERS + [NET, RING] if not is_right(value)]
    return rows + [value for value in odd_values() if not (isinstance(value, tuple) and value == () and () in row)]


class BookCase(unittest.TestCase):
    def no_value(self, word, call, *args, **more):
        with self.assertRaises(NoValue) as caught:
            call(*args, **more)
        self.assertEqual(caught.exception.word, word)

    def no_switch(self, word, call, *args, **more):
        with self.assertRaises(NoSwitch) as caught:
            call(*args, **more)
        self.assertIs(caught.exception.word, word)

    def put(self, book, word, value):
        book[word] = value


class TestEverySwitch(BookCase):
    def test_as_born(self):
        for make, way, table, born in KINDS:
            book = make()
            self.assertEqual(book.switches(), born)
            for word, value in born:
                self.assertEqual((book[word], getattr(book, word)), (value, value))

    def test_right_values_in_every_way(self):
        for make, way, table, born in KINDS:
            for word in table:
                for value in table[word]:
                    rows = [make(**{word: value}), make(), make(), make()]
                    rows[1][word] = value
                    setattr(rows[2], word, value)
                    self.assertIsNone(rows[3].change(**{word: value}))
                    for book in rows:
                        self.assertIs(book[word], value)
                        self.assertIs(getattr(book, word), value)
                        self.assertEqual(book.switches(), [(name, value if name == word else old) for name, old in born])

    def test_one_value_behind_another(self):
        for make, way, table, born in KINDS:
            book = make()
            held = dict(born)
            for word in table:
                for value in table[word]:
                    book[word] = value
                    held[word] = value
                    self.assertEqual(book.switches(), list(held.items()))

    def test_wrong_values_in_every_way(self):
        for make, way, table, born in KINDS:
            for word in table:
                for value in wrong_values(table[word]):
                    self.no_value(word, make, **{word: value})
                    book = make()
                    self.no_value(word, self.put, book, word, value)
                    self.no_value(word, setattr, book, word, value)
                    self.no_value(word, book.change, **{word: value})
                    self.assertEqual(book.switches(), born)
                    self.assertEqual(book, make())

    def test_words_that_are_no_switches(self):
        for make, way, table, born in KINDS:
            book = make()
            words = [word for word in WORDS if word not in table] + ["way", "self", "values", "", "twin", "_values"]
            for word in words + odd_values():
                self.no_switch(word, lambda: book[word])
                self.no_switch(word, self.put, book, word, "cell")
                self.no_switch(word, self.put, book, word, None)
            self.assertEqual(book.switches(), born)

    def test_switches_only_by_name(self):
        for make in (FirstBook, WakingBook, LateBook):
            for value in ("cell", "again", None):
                self.assertRaises(TypeError, make, value)
        self.assertRaises(TypeError, NetBook, NET, "own")
        self.assertRaises(TypeError, NetBook)
        self.assertEqual(NetBook(needs=NET, guard="one"), NetBook(NET, guard="one"))


class TestOrderOfErrors(BookCase):
    def test_the_first_wrong_switch(self):
        for make, way, table, born in KINDS:
            words = list(table)
            for first in range(len(words)):
                for last in range(first, len(words)):
                    given = {word: None for word in reversed(words[first:last + 1])}
                    self.no_value(words[first], make, **given)
                    book = make()
                    self.no_value(words[first], book.change, **given)
                    right = {word: table[word][-1] for word in words if word not in given}
                    self.no_value(words[first], book.change, **given, **right)
                    self.assertEqual(book.switches(), born)

    def test_the_guard_ahead_of_the_net(self):
        self.no_value("guard", NetBook, None, guard="lock")
        self.no_value("needs", NetBook, None, guard="one")
        self.no_value("needs", NetBook, {"a": ()})

    def test_change_tells_words_ahead_of_values(self):
        for make, way, table, born in KINDS:
            book = make()
            word = list(table)[0]
            with self.assertRaises(NoSwitch) as caught:
                book.change(**{word: None, "colour": 1, "other": 2})
            self.assertEqual(caught.exception.word, "colour")
            with self.assertRaises(NoSwitch) as caught:
                book.change(**{"other": 2, word: table[word][-1], "colour": 1})
            self.assertEqual(caught.exception.word, "other")
            self.assertEqual(book.switches(), born)

    def test_change_of_the_words_of_other_books(self):
        for make, way, table, born in KINDS:
            for word in WORDS:
                if word not in table:
                    book = make()
                    with self.assertRaises(NoSwitch) as caught:
                        book.change(**{list(table)[0]: list(table.values())[0][-1], word: "cell"})
                    self.assertEqual(caught.exception.word, word)
                    self.assertEqual(book.switches(), born)

    def test_change_with_odd_words(self):
        book = WakingBook()
        for word in ("at", "worth", "word", "value", "values", "book", "kind", "Wake", "wake ", ""):
            with self.assertRaises(NoSwitch) as caught:
                book.change(**{"wake": "one", word: "one"})
            self.assertEqual(caught.exception.word, word)
        self.assertEqual(book.switches(), WAKING_AS_BORN)


class TestChange(BookCase):
    def test_several_at_once(self):
        book = FirstBook()
        self.assertIsNone(book.change(writing="flag cell parts", look="none", guard="swap"))
        self.assertEqual(book.switches(), [("look", "none"), ("guard", "swap"), ("again", "cell"),
                                           ("writing", "flag cell parts")])
        book.change(again="flag", look="flag")
        self.assertEqual((book.look, book.guard, book.again), ("flag", "swap", "flag"))

    def test_none_at_all(self):
        for make, way, table, born in KINDS:
            book = make()
            self.assertIsNone(book.change())
            self.assertEqual(book.switches(), born)

    def test_all_or_none(self):
        book = LateBook(look="flag", fences=())
        self.no_value("fences", book.change, look="cell", fences=["parts"])
        self.assertEqual(book.switches(), [("look", "flag"), ("fences", ())])
        book = NetBook(NET)
        self.no_value("needs", book.change, guard="one", needs={"a": ()})
        self.assertEqual(book.switches(), NET_AS_BORN)

    def test_what_was_handed_in_is_copied(self):
        given = {"failure": "left", "wake": "one"}
        book = WakingBook(**given)
        other = WakingBook()
        other.change(**given)
        given["failure"] = "kept"
        given.clear()
        for one in (book, other):
            self.assertEqual(one.switches(), [("failure", "left"), ("wait", "sleep"), ("wake", "one")])


class TestTelling(BookCase):
    def test_way(self):
        for make, way, table, born in KINDS:
            book = make()
            self.assertEqual(book.way, way)
            with self.assertRaises(AttributeError):
                book.way = "first"
            self.assertEqual(book.way, way)

    def test_words(self):
        for make, way, table, born in KINDS:
            book = make()
            words = list(table)
            self.assertEqual((list(book), book.listed(), [word for word in book], len(book)),
                             (words, words, words, len(words)))

    def test_the_words_stay_in_order(self):
        book = FirstBook(writing="flag cell parts", again="flag")
        book["writing"] = "cell parts flag"
        book["look"] = "none"
        self.assertEqual(book.listed(), ["look", "guard", "again", "writing"])
        self.assertEqual(NetBook(guard="one", needs=RING).switches(), [("guard", "one"), ("needs", RING)])

    def test_returned_lists_are_new_ones(self):
        for make, way, table, born in KINDS:
            book = make()
            book.listed().append("more")
            book.listed().clear()
            book.switches().append(("more", 1))
            book.switches().clear()
            self.assertEqual((book.listed(), book.switches(), len(book)), (list(table), born, len(born)))

    def test_all_are_books(self):
        for make, way, table, born in KINDS:
            self.assertIsInstance(make(), Book)
        for kind in (FirstBook, WakingBook, LateBook, NetBook):
            for other in (FirstBook, WakingBook, LateBook, NetBook):
                self.assertEqual(issubclass(kind, other), kind is other)

    def test_static_methods(self):
        for book in (FirstBook.twofold(), FirstBook.bare().twofold()):
            self.assertEqual(book.switches(), FIRST_AS_BORN)
        for book in (FirstBook.bare(), FirstBook().bare()):
            self.assertEqual(book.switches(), [("look", "cell"), ("guard", "none"), ("again", "never"),
                                               ("writing", "parts cell flag")])
        self.assertIsInstance(FirstBook.twofold(), FirstBook)
        one = FirstBook.twofold()
        one.look = "none"
        self.assertEqual(FirstBook.twofold().look, "cell")


class TestEqual(BookCase):
    def test_equal_with_the_same_switches(self):
        for make, way, table, born in KINDS:
            self.assertIs(make() == make(), True)
            self.assertIs(make() != make(), False)
            self.assertIs(make() == make(**dict(born)), True)
            for word in table:
                for value in table[word]:
                    book = make(**{word: value})
                    self.assertIs(book == make(), value == dict(born)[word])
                    self.assertIs(book != make(), value != dict(born)[word])
                    self.assertIs(book == make(**{word: value}), True)

    def test_equal_again(self):
        book = FirstBook()
        book.look = "flag"
        self.assertIs(book == FirstBook(), False)
        book.look = "cell"
        self.assertIs(book == FirstBook(), True)

    def test_equal_nets_make_equal_books(self):
        self.assertIs(NetBook(Net({"b": [], "a": ["b"]})) == NetBook(NET), True)
        self.assertIs(NetBook(Net({"a": ("a", "b"), "b": ()})) == NetBook(Net({"a": ("b", "a"), "b": ()})), False)

    def test_equal_only_to_books_of_the_kind(self):
        books = [make() for make, _, _, _ in KINDS]
        for one in books:
            for other in books:
                self.assertIs(one == other, one is other)
                self.assertIs(one != other, one is not other)
            for value in [one.switches(), dict(one.switches()), one.way, NET, None]:
                self.assertIs(one == value, False)
                self.assertIs(one != value, True)

    def test_twin(self):
        for make, way, table, born in KINDS:
            for word in table:
                for value in table[word]:
                    book = make(**{word: value})
                    twin = book.twin()
                    self.assertIsNot(twin, book)
                    self.assertIs(type(twin), type(book))
                    self.assertEqual(twin.switches(), book.switches())
                    self.assertIs(twin == book, True)

    def test_a_twin_goes_on_by_itself(self):
        for make, way, table, born in KINDS:
            for word in table:
                book, other = make(), table[word][1]
                twin = book.twin()
                for value in table[word]:
                    twin[word] = value
                    self.assertEqual(book.switches(), born)
                twin = book.twin()
                book.change(**{word: other})
                self.assertEqual(twin.switches(), born)
                setattr(book, word, dict(born)[word])
                self.assertEqual(twin, book)


class TestLessOrEqual(BookCase):
    def test_late_books(self):
        for look in LATE["look"]:
            for fences in LATE["fences"]:
                for other_look in LATE["look"]:
                    for others in LATE["fences"]:
                        one, other = LateBook(look=look, fences=fences), LateBook(look=other_look, fences=others)
                        self.assertIs(one <= other, look == other_look and set(fences) <= set(others))

    def test_behind_a_change(self):
        one, other = LateBook(fences=("cell",)), LateBook(fences=("cell", "reads"))
        self.assertIs(one <= other, True)
        one.fences = ("parts", "cell")
        self.assertIs(one <= other, False)
        other.fences = ("parts", "cell", "reads")
        self.assertIs(one <= other, True)
        other.look = "flag"
        self.assertIs(one <= other, False)


if __name__ == "__main__":
    unittest.main()
