"""Verdicts: the faults of every book, the bounds of makings, the least fences, and runs that agree with them."""

import unittest

from firstmade.benches import end_of
from firstmade.books import FirstBook, LateBook, NetBook, WakingBook
from firstmade.errors import MadeError, NoBook, NoNumber, NoValue
from firstmade.nets import Net
from firstmade.settings import Setting
from firstmade.verdicts import faults, is_right, least_fences, most_makings
from tests.exploring import (FENCES, WRITINGS, come_to, fault_words, first_books, late_books, net_books, small_nets,
                             some_hand_is_stuck, waking_books)
from tests.odd_values import Alike, Touchy, odd_values
from tests.samples import NO_BOOKS, RIGHT_NET


class VerdictCase(unittest.TestCase):
    def no_book(self, call, value, *args):
        with self.assertRaises(NoBook) as caught:
            call(value, *args)
        self.assertIs(caught.exception.value, value)

    def told(self, book, words):
        self.assertEqual(faults(book), words)
        self.assertIs(is_right(book), words == [])


class TestFirstBooks(VerdictCase):
    def test_by_default_and_bare(self):
        self.told(FirstBook(), [])
        self.told(FirstBook.twofold(), [])
        self.told(FirstBook.bare(), ["twice"])

    def test_twice_by_guard_and_again(self):
        for book in first_books():
            self.assertEqual("twice" in faults(book), (book.guard, book.again) in (
                ("none", "never"), ("none", "cell"), ("none", "flag"), ("lock", "never")))

    def test_half_by_look_guard_and_again(self):
        """The writings with which nothing half made is used, for each look, guard and again."""
        parts_first = ["parts cell flag", "parts flag cell", "flag parts cell"]
        flag_last = ["parts cell flag", "cell parts flag"]
        both = ["parts cell flag"]
        right = {
            ("cell", "none"): parts_first, ("cell", "lock"): parts_first, ("cell", "claim"): both,
            ("cell", "swap"): parts_first, ("flag", "none"): both, ("flag", "lock"): flag_last,
            ("flag", "claim"): flag_last, ("flag", "swap"): both, ("none", "none"): WRITINGS,
            ("none", "lock"): WRITINGS, ("none", "claim"): flag_last, ("none", "swap"): parts_first,
        }
        for book in first_books():
            writings = right[book.look, book.guard]
            if (book.look, book.guard, book.again) == ("flag", "lock", "never"):
                writings = both
            self.assertEqual("half" not in faults(book), book.writing in writings)

    def test_half_ahead_of_twice(self):
        self.told(FirstBook(guard="none", writing="cell parts flag"), ["half", "twice"])
        self.told(FirstBook(look="flag", again="never", writing="cell parts flag"), ["half", "twice"])
        self.told(FirstBook(look="flag", writing="flag parts cell"), ["half"])

    def test_runs_agree(self):
        for book in first_books():
            words = faults(book)
            self.assertEqual(sorted(fault_words(come_to(Setting(book)))), words)
            for hands, makes in ((1, 2), (1, 3)):
                self.assertLessEqual(fault_words(come_to(Setting(book, hands, makes=makes))), set(words))

    def test_runs_of_more_hands_and_makings_agree(self):
        for book in first_books()[::5] + [FirstBook(guard=guard) for guard in ("claim", "swap")]:
            for hands, makes in ((2, 3), (3, 2)):
                self.assertLessEqual(fault_words(come_to(Setting(book, hands, makes=makes))), set(faults(book)))


class TestWakingBooks(VerdictCase):
    def test_every_book(self):
        right = [("spin", "all"), ("spin", "one"), ("spin", "chain"), ("spin", "none"), ("sleep", "all"),
                 ("sleep", "chain")]
        for book in waking_books():
            is_safe = book.failure != "left" and (book.wait, book.wake) in right
            self.told(book, [] if is_safe else ["stuck"])

    def test_runs_agree(self):
        for book in waking_books():
            setting = Setting(book, 3, fails=1)
            self.assertEqual(some_hand_is_stuck(setting, come_to(setting)), faults(book) == ["stuck"])

    def test_runs_of_other_hands_and_failures_agree(self):
        for book in waking_books():
            for hands, fails in ((1, 2), (2, 0), (2, 2), (4, 1)):
                setting = Setting(book, hands, fails=fails)
                if is_right(book):
                    self.assertFalse(some_hand_is_stuck(setting, come_to(setting)))


class TestLateBooks(VerdictCase):
    def test_every_book(self):
        for book in late_books():
            if book.look == "cell":
                self.told(book, [] if "parts" in book.fences else ["half"])
            else:
                self.told(book, [] if book.fences in (("cell", "reads"), ("parts", "cell", "reads")) else ["half"])

    def test_runs_agree(self):
        for book in late_books():
            for hands in (2, 3):
                self.assertEqual(sorted(fault_words(come_to(Setting(book, hands)))), faults(book))


class TestNetBooks(VerdictCase):
    def test_with_and_without_rings(self):
        for guard in ("own", "one"):
            for needs, words in (({"a": ()}, []), ({"a": ("a",)}, ["itself", "stuck"]), ({"a": ("b",), "b": ()}, []),
                                 ({"a": ("b",), "b": ("a",)}, ["itself", "stuck"]),
                                 ({"a": ("b", "c"), "b": ("c",), "c": ("d", "e"), "d": ("e",), "e": ()}, []),
                                 ({"a": (), "b": ("c",), "c": ("d",), "d": ("b",)}, ["itself", "stuck"])):
                self.told(NetBook(Net(needs), guard=guard), words)

    def test_as_the_order_tells(self):
        for net in small_nets("abc"):
            for guard in ("own", "one"):
                self.told(NetBook(net, guard=guard), ["itself", "stuck"] if net.order() is None else [])

    def test_runs_agree(self):
        for book in net_books("a") + net_books("ab"):
            alone = come_to(Setting(book, 1))
            self.assertEqual(fault_words(alone), set(faults(book)) - {"stuck"})
            setting = Setting(book, 2)
            behind = come_to(setting)
            self.assertEqual(fault_words(behind), set(faults(book)) - {"stuck"})
            self.assertEqual(some_hand_is_stuck(setting, behind), "stuck" in faults(book))

    def test_runs_of_three_values_agree(self):
        for book in net_books("abc")[::9]:
            setting = Setting(book, 2)
            behind = come_to(setting)
            self.assertEqual(fault_words(behind), set(faults(book)) - {"stuck"})
            self.assertEqual(some_hand_is_stuck(setting, behind), "stuck" in faults(book))


class TestAnyValue(VerdictCase):
    def test_what_is_no_book(self):
        for value in NO_BOOKS:
            self.no_book(faults, value)
            self.no_book(is_right, value)

    def test_names_of_arguments(self):
        self.assertEqual(faults(book=FirstBook.bare()), ["twice"])
        self.assertIs(is_right(book=FirstBook()), True)
        self.assertEqual(most_makings(hands=3, book=FirstBook(look="flag", guard="none")), 3)
        self.assertEqual(least_fences(look="cell"), ("parts",))

    def test_a_list_that_was_told_can_be_changed(self):
        for book in (FirstBook.bare(), WakingBook(wake="none"), LateBook(fences=()), NetBook(Net({"a": ("a",)})),
                     FirstBook(), RIGHT_NET):
            words = faults(book)
            kept = list(words)
            words.append("none")
            self.assertEqual(faults(book), kept)

    def test_a_book_that_is_changed_has_other_faults(self):
        book = FirstBook()
        self.told(book, [])
        book.again = "never"
        self.told(book, ["twice"])
        book.guard = "claim"
        self.told(book, [])

    def test_books_are_not_changed(self):
        for book in (FirstBook.bare(), WakingBook(), LateBook(), RIGHT_NET):
            twin = book.twin()
            faults(book)
            is_right(book)
            self.assertEqual(book, twin)


class TestMostMakings(VerdictCase):
    def bound(self, book, hands):
        """The bound, read off for each guard, look and again."""
        if book.guard == "claim" or (book.guard, book.again) in (("lock", "cell"), ("lock", "flag")):
            return 1
        unbound = [("none", "none"), ("none", "lock"), ("none", "swap"), ("flag", "swap")]
        return None if (book.look, book.guard) in unbound else hands

    def test_every_book(self):
        for book in first_books():
            for hands in (1, 2, 3, 4):
                self.assertEqual(most_makings(book, hands), self.bound(book, hands))

    def test_some_books(self):
        self.assertEqual(most_makings(FirstBook(again="never"), 3), 3)
        self.assertEqual(most_makings(FirstBook(), 4), 1)
        self.assertEqual(most_makings(FirstBook(look="none", guard="claim"), 4), 1)
        self.assertIsNone(most_makings(FirstBook(look="none", again="never"), 1))
        self.assertIsNone(most_makings(FirstBook(look="flag", guard="swap"), 2))
        self.assertEqual(most_makings(FirstBook(look="cell", guard="swap"), 2), 2)

    def test_no_first_book_makes_more_often(self):
        for book in first_books():
            for hands, makes in ((1, 2), (2, 2), (2, 3)) if book.writing == "parts cell flag" else ((1, 3), (2, 2)):
                most = most_makings(book, hands)
                often = max(state[0] for state in come_to(Setting(book, hands, makes=makes)))
                self.assertLessEqual(often, makes if most is None else most)
                if most is not None:
                    self.assertEqual(often, min(most, makes))

    def test_no_first_book(self):
        for value in [*NO_BOOKS, WakingBook(), LateBook(), RIGHT_NET]:
            for hands in (2, 0, None, True, Touchy()):
                self.no_book(most_makings, value, hands)

    def test_no_number(self):
        values = [value for value in odd_values() if not (isinstance(value, int) and value == 1)]
        for value in [*values, True, False, 0, 5, -1, 10 ** 50, 2.0, "2", [2], (2,), Alike(), Touchy()]:
            for book in (FirstBook(), FirstBook.bare(), FirstBook(look="none", guard="swap"), FirstBook(guard="claim")):
                with self.assertRaises(NoNumber) as caught:
                    most_makings(book, value)
                self.assertIs(caught.exception.value, value)

    def test_errors_are_made_errors(self):
        for call in (lambda: faults(None), lambda: most_makings(FirstBook(), 0), lambda: least_fences("none")):
            with self.assertRaises(MadeError):
                call()


class TestLeastFences(VerdictCase):
    def test_each_look(self):
        self.assertEqual((least_fences("cell"), least_fences("flag")), (("parts",), ("cell", "reads")))

    def test_the_least_of_all_that_are_right(self):
        for look in ("cell", "flag"):
            right = [fences for fences in FENCES if is_right(LateBook(look=look, fences=fences))]
            self.assertIn(least_fences(look), right)
            for fences in right:
                self.assertLessEqual(set(least_fences(look)), set(fences))

    def test_no_look_of_a_late_book(self):
        for value in odd_values() + ["none", "Cell", "cell ", "parts", ("cell",), ["flag"], LateBook(), Alike(), Touchy()]:
            with self.assertRaises(NoValue) as caught:
                least_fences(value)
            self.assertEqual(caught.exception.word, "look")


class TestExamples(VerdictCase):
    def test_a_run_to_twice(self):
        book = FirstBook(again="never")
        self.assertEqual((faults(book), most_makings(book, 3)), (["twice"], 3))
        run = [(0, "look"), (1, "look"), (0, "lock"), (0, "make"), *[(0, "write")] * 4, (0, "unlock"), (0, "use"),
               (1, "lock"), (1, "make"), *[(1, "write")] * 4, (1, "unlock"), (1, "use")]
        self.assertEqual(end_of(Setting(book), run), ("twice", 1, 1))


if __name__ == "__main__":
    unittest.main()
