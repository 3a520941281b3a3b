"""Changes: what they are, picks in their order, prices, the picks of least cost, and what breaks cheaper ones."""

import random
import unittest
from itertools import combinations

from firstmade.benches import is_run
from firstmade.books import FirstBook, LateBook, NetBook, WakingBook
from firstmade.breaking import breaking, breaks
from firstmade.changes import Changes, picked, picks, price
from firstmade.errors import MadeError, NoBook, NoChange, NoPick
from firstmade.nets import Net
from firstmade.settings import Setting
from firstmade.verdicts import faults, is_right
from tests.exploring import FENCES, WRITINGS, first_books, late_books, waking_books
from tests.odd_values import Alike, Touchy, odd_values
from tests.samples import NO_BOOKS, RIGHT_NET

BARE = [("guard", "lock", 3), ("again", "cell", 1), ("guard", "claim", 4), ("guard", "swap", 5),
        ("look", "flag", 0), ("writing", "parts flag cell", 2)]
SLEEPY = [("wake", "all", 2), ("wake", "chain", 2), ("wait", "spin", 1), ("failure", "kept", 0),
          ("failure", "again", 7)]
LATE = [("fences", ("cell", "reads"), 5), ("look", "cell", 2), ("fences", ("parts",), 3), ("fences", (), 0)]
NO_PLAIN_BOOKS = NO_BOOKS + [NetBook(Net({"a": ("a",)})), RIGHT_NET]
VALUES = {
    "first": {"look": ("cell", "flag", "none"), "guard": ("none", "lock", "claim", "swap"),
              "again": ("never", "cell", "flag"), "writing": tuple(WRITINGS)},
    "waking": {"failure": ("again", "kept", "left"), "wait": ("spin", "sleep", "doze"),
               "wake": ("all", "one", "chain", "none")},
    "late": {"look": ("cell", "flag"), "fences": tuple(FENCES)},
}


def drawn_lists(many):
    """Books with lists of none to six changes, some of one switch: drawn, the same ones each time."""
    drawn = random.Random(11)
    books = first_books() + waking_books() * 4 + late_books() * 6
    for _ in range(many):
        book = drawn.choice(books)
        words = VALUES[book.way]
        changes = []
        for _ in range(drawn.randint(0, 6)):
            word = drawn.choice(list(words))
            changes.append((word, drawn.choice(words[word]), drawn.choice((0, 0, 1, 1, 2, 5, 1000))))
        yield book, changes


def all_picks(changes):
    """All picks, counted over all tuples of places."""
    rows = [row for many in range(len(changes) + 1) for row in combinations(range(len(changes)), many)]
    return [row for row in rows if len({changes[at][0] for at in row}) == len(row)]


class ChangeCase(unittest.TestCase):
    def calls(self, book, changes):
        """All that look at a book and changes."""
        yield lambda: picked(book, changes, ())
        yield lambda: picked(book, changes, None)
        yield lambda: next(picks(book, changes))
        yield lambda: list(picks(book, changes))
        yield lambda: Changes(book, changes)

    def no_change(self, book, changes, at):
        for call in self.calls(book, changes):
            with self.assertRaises(NoChange) as caught:
                call()
            self.assertEqual(caught.exception.at, at)
            self.assertIs(type(caught.exception.at), type(at))

    def no_pick(self, book, changes, pick):
        with self.assertRaises(NoPick) as caught:
            picked(book, changes, pick)
        self.assertIs(caught.exception.pick, pick)


class TestErrors(ChangeCase):
    BOOKS = ((FirstBook.bare(), BARE), (WakingBook(wake="none"), SLEEPY), (LateBook(look="flag"), LATE))

    def test_no_book_for_net_books_too_and_ahead_of_no_change(self):
        for value in NO_PLAIN_BOOKS:
            for changes in ([], BARE, None, [None], [("guard", "own", 1)], Touchy()):
                for call in self.calls(value, changes):
                    with self.assertRaises(NoBook) as caught:
                        call()
                    self.assertIs(caught.exception.value, value)

    def test_no_list_or_tuple_of_at_most_six(self):
        for book, changes in self.BOOKS:
            for value in odd_values() + ["guard lock 3", {0: changes[0]}, iter(changes), changes[:1] * 7, [None] * 7,
                                         tuple(changes[:1]) * 8, Changes(book, changes), picks(book, changes)]:
                if not isinstance(value, (list, tuple)) or len(value) > 6:
                    self.no_change(book, value, None)

    def test_six_changes_and_none(self):
        for book, changes in self.BOOKS:
            for rows in ([], (), changes[:1] * 6, tuple(changes[:1]) * 6):
                for call in self.calls(book, rows):
                    try:
                        call()
                    except NoPick as error:
                        self.assertIsNone(error.pick)

    def test_the_first_item_that_is_no_change(self):
        for book, changes in self.BOOKS:
            word, value, cost = changes[0]
            wrong = odd_values() + [
                [word, value, cost], (word, value), (word, value, cost, cost), (value, word, cost), (word, cost, value),
                (word, value, -1), (word, value, 1001), (word, value, 10 ** 50), (word, value, True),
                (word, value, False), (word, value, 1.0), (word, value, "1"), (word, value, None), (word, value, [1]),
                (word, value, Touchy()), (word.upper(), value, 1), (word + " ", value, 1), ("", value, 1),
                (None, value, 1), ([word], value, 1), ((word,), value, 1), (Alike(), value, 1), (Touchy(), value, 1),
                ("needs", Net({"a": ()}), 1), ("way", book.way, 1), (word, None, 1), (word, "no such value", 1),
                (word, Alike(), 1), (word, Touchy(), 1), (word, [value], 1), (word, (value, value), 1),
                (word, {value}, 1), word, book, {word: value}]
            for kind in VALUES:
                if kind != book.way:
                    wrong += [(other, rows[0], 1) for other, rows in VALUES[kind].items() if other not in book]
            for item in wrong:
                for at in range(3):
                    self.no_change(book, [*changes[:at], item], at)
                    self.no_change(book, (*changes[:at], item, None, *changes[:2]), at)

    def test_costs_at_their_bounds(self):
        for book, changes in self.BOOKS:
            word, value, _ = changes[0]
            for cost in (0, 1, 999, 1000):
                self.assertEqual(price([(word, value, cost)], (0,)), cost)
                self.assertEqual(picked(book, [(word, value, cost)], (0,))[word], value)

    def test_a_value_that_the_switch_has_already(self):
        self.assertEqual(picked(FirstBook(), [("guard", "lock", 5)], (0,)), FirstBook())
        self.assertEqual(Changes(FirstBook(), [("guard", "lock", 0)]).listed(), [(), (0,)])

    def test_raised_as_soon_as_the_first_is_asked_for(self):
        rows = ((None, BARE, NoBook), (FirstBook(), None, NoChange), (FirstBook(), [None], NoChange))
        for book, changes, error in rows:
            asked = picks(book, changes)
            with self.assertRaises(error):
                next(asked)

    def test_no_pick_for_any_value(self):
        for book, changes in self.BOOKS:
            of_one_switch = [row for row in combinations(range(len(changes)), 2)
                             if changes[row[0]][0] == changes[row[1]][0]]
            self.assertTrue(of_one_switch)
            for value in odd_values() + of_one_switch + [
                    [], [0], (0, 0), (1, 0), (-1,), (len(changes),), (0.0,), ("0",), (None,), (True,), (False,),
                    (0, True), ((0,),), (10 ** 50,), {0}, {0: 1}, 0, "0", range(1), (0, 1, None)]:
                if not (isinstance(value, tuple) and value == ()):
                    self.no_pick(book, changes, value)
            self.no_pick(book, [], (0,))

    def test_errors_are_made_errors(self):
        for call in (lambda: picked(None, [], ()), lambda: picked(FirstBook(), None, ()), lambda: Changes(None, None),
                     lambda: picked(FirstBook(), [], None), lambda: next(picks(None, None))):
            with self.assertRaises(MadeError):
                call()


class TestPicks(ChangeCase):
    def test_in_order(self):
        changes = [("guard", "lock", 3), ("again", "cell", 1), ("guard", "claim", 4)]
        self.assertEqual(list(picks(FirstBook.bare(), changes)), [(), (0,), (1,), (2,), (0, 1), (1, 2)])
        self.assertEqual(list(picks(FirstBook.bare(), [])), [()])
        self.assertEqual(list(picks(LateBook(), tuple(LATE))), [(), (0,), (1,), (2,), (3,), (0, 1), (1, 2), (1, 3)])

    def test_against_all_tuples_of_places(self):
        for book, changes in drawn_lists(150):
            self.assertEqual(list(picks(book, changes)), all_picks(changes))
            self.assertEqual(list(picks(changes=tuple(changes), book=book)), all_picks(changes))

    def test_a_generator(self):
        rows = picks(FirstBook.bare(), BARE)
        self.assertIs(iter(rows), rows)
        self.assertEqual((next(rows), next(rows)), ((), (0,)))

    def test_four_of_unlike_switches(self):
        changes = [("look", "none", 1), ("guard", "swap", 1), ("again", "flag", 1), ("writing", "parts cell flag", 1)]
        self.assertEqual(len(list(picks(FirstBook(), changes))), 16)


class TestPicked(ChangeCase):
    def test_every_pick(self):
        for book, changes in drawn_lists(100):
            kept = book.twin()
            for pick in all_picks(changes):
                new = picked(book, changes, pick)
                self.assertIs(type(new), type(book))
                self.assertIsNot(new, book)
                given = {changes[at][0]: changes[at][1] for at in pick}
                self.assertEqual(new.switches(), [(word, given.get(word, value)) for word, value in book.switches()])
            self.assertEqual(book, kept)

    def test_a_new_book(self):
        book = FirstBook()
        new = picked(book, [], ())
        new.guard = "none"
        self.assertEqual(book, FirstBook())
        self.assertEqual(picked(pick=(0,), changes=[("guard", "none", 1)], book=book), new)

    def test_prices(self):
        self.assertEqual([price(BARE, pick) for pick in ((), (0,), (0, 1), (1, 3, 5))], [0, 3, 4, 8])
        self.assertEqual(price(pick=(0, 2), changes=tuple(BARE)), 7)


class TestChanges(ChangeCase):
    def least(self, book, changes):
        """The least cost and its picks, by a search through all of them."""
        right = [pick for pick in all_picks(changes) if is_right(picked(book, changes, pick))]
        costs = [sum(changes[at][2] for at in pick) for pick in right]
        if not right:
            return None, []
        return min(costs), [pick for pick, cost in zip(right, costs) if cost == min(costs)]

    def test_against_a_search_through_all_picks(self):
        some = {None: 0}
        for book, changes in drawn_lists(400):
            told = Changes(book, changes)
            cost, rows = self.least(book, changes)
            self.assertEqual((told.cost, told.listed(), list(told), len(told)), (cost, rows, rows, len(rows)))
            for pick in all_picks(changes):
                self.assertIs(pick in told, pick in rows)
            some[cost] = some.get(cost, 0) + 1
        self.assertGreater(some[None], 10)
        self.assertGreater(len(some), 5)

    def test_some_changes(self):
        told = Changes(FirstBook.bare(), BARE)
        self.assertEqual((told.cost, told.listed()), (4, [(2,), (0, 1), (2, 4), (0, 1, 4)]))
        self.assertEqual([row[:2] for row in told.floor()],
                         [((), "twice"), ((0,), "twice"), ((1,), "twice"), ((4,), "twice"), ((5,), "twice"),
                          ((0, 4), "twice"), ((1, 4), "twice"), ((1, 5), "twice"), ((4, 5), "half"),
                          ((1, 4, 5), "half")])
        told = Changes(WakingBook(wake="none"), SLEEPY)
        self.assertEqual((told.cost, told.listed()), (1, [(2,), (2, 3)]))
        told = Changes(LateBook(look="flag"), LATE)
        self.assertEqual((told.cost, told.listed()), (2, [(1,)]))

    def test_a_right_book(self):
        told = Changes(FirstBook(), [("look", "flag", 0), ("again", "flag", 0), ("guard", "claim", 1)])
        self.assertEqual((told.cost, told.listed()), (0, [(), (0,), (1,), (0, 1)]))
        self.assertEqual(told.floor(), [])
        told = Changes(WakingBook(), [])
        self.assertEqual((told.cost, told.listed(), len(told), told.floor()), (0, [()], 1, []))

    def test_none_makes_it_right(self):
        changes = [("again", "cell", 0), ("look", "none", 1000)]
        told = Changes(FirstBook.bare(), changes)
        self.assertIsNone(told.cost)
        self.assertEqual((told.listed(), list(told), len(told)), ([], [], 0))
        self.assertIs(() in told, False)
        self.assertEqual([row[0] for row in told.floor()], [(), (0,), (1,), (0, 1)])

    def test_in_for_any_value(self):
        told = Changes(FirstBook.bare(), [("guard", "claim", 4), ("guard", "swap", 4), ("again", "cell", 0)])
        self.assertEqual(told.listed(), [(0,), (1,), (0, 2), (1, 2)])
        for pick in told:
            self.assertIs(pick in told, True)
            self.assertIs(list(pick) in told, False)
        for value in odd_values() + [(False,), (True,), (0.0,), (1.0,), (False, 2), [0], 0, "0", (2,), (0, 1), ("0",),
                                     {0}, ((0,),), (0, 2.0), (Alike(),), (0, Touchy()), (2, 0), (0, 0)]:
            self.assertIs(value in told, False)
        self.assertIs((False,) in Changes(FirstBook(), [("guard", "lock", 0)]), False)
        self.assertIs((0,) in Changes(FirstBook(), [("guard", "lock", 0)]), True)
        self.assertIs(() in Changes(FirstBook(), []), True)

    def test_floor(self):
        many = 0
        for book, changes in drawn_lists(120):
            told = Changes(book, changes)
            rows = told.floor()
            cheaper = [pick for pick in all_picks(changes)
                       if told.cost is None or sum(changes[at][2] for at in pick) < told.cost]
            self.assertEqual([row[0] for row in rows], cheaper)
            for row in rows:
                self.assertIs(type(row), tuple)
                pick, word, setting, run = row
                new = picked(book, changes, pick)
                self.assertEqual(word, faults(new)[0])
                self.assertEqual((setting, run), breaking(new, word))
                self.assertTrue(is_run(setting, run))
                self.assertIs(breaks(setting, run, word), True)
                self.assertEqual(setting.book(), new)
                many += 1
        self.assertGreater(many, 200)

    def test_later_changes_of_what_was_handed_in(self):
        book, changes = FirstBook.bare(), list(BARE)
        told = Changes(book, changes)
        kept = (told.cost, told.listed(), told.floor())
        book.guard = "claim"
        changes[:] = [("guard", "claim", 1)]
        self.assertEqual((told.cost, told.listed(), told.floor()), kept)
        changes.clear()
        self.assertEqual((told.cost, list(told), told.floor()), kept)

    def test_later_changes_of_what_was_returned(self):
        told = Changes(FirstBook.bare(), BARE)
        kept = (told.listed(), told.floor())
        told.listed().clear()
        rows = told.floor()
        for row in rows:
            row[3].clear()
        rows.clear()
        self.assertEqual((told.listed(), told.floor()), kept)
        self.assertIsNot(told.listed(), told.listed())

    def test_only_equal_to_its_own_class(self):
        told = Changes(FirstBook(), [])
        self.assertEqual(told, told)
        for other in ([()], (), None, Setting(FirstBook()), FirstBook()):
            self.assertFalse(told == other)

    def test_names_of_arguments(self):
        told = Changes(changes=BARE, book=FirstBook.bare())
        self.assertEqual(told.listed(), Changes(FirstBook.bare(), BARE).listed())

    def test_cost_is_not_assigned(self):
        with self.assertRaises(AttributeError):
            Changes(FirstBook(), []).cost = 3


if __name__ == "__main__":
    unittest.main()
