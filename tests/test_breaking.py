"""Breaking: a run for each fault of each book, and what breaks a setting."""

import random
import unittest

from firstmade.benches import end_of, is_run, play
from firstmade.books import FirstBook, LateBook, NetBook, WakingBook
from firstmade.breaking import breaking, breaks
from firstmade.errors import MadeError, NoBook, NoFault, NoSetting, TooMany
from firstmade.nets import Net
from firstmade.rules import first_state, is_fault
from firstmade.searches import all_states, shortest, stuck_hands
from firstmade.settings import Setting
from firstmade.verdicts import faults
from tests.exploring import first_books, late_books, net_books, waking_books
from tests.odd_values import Touchy, odd_values
from tests.samples import NO_BOOKS, NO_SETTINGS, RIGHT_NET, RING, SELF_NET, SETTINGS, WIDE_NET

WORDS = ("half", "twice", "itself", "stuck")


def larger_books():
    """Net books of four and five values, most of them with rings: drawn, the same ones each time."""
    drawn = random.Random(20)
    rows = []
    for _ in range(60):
        names = "abcde"[:drawn.randint(4, 5)]
        needs = {name: drawn.sample(names, drawn.choice((0, 1, 1, 2, len(names)))) for name in names}
        rows.append(NetBook(Net(needs), guard=drawn.choice(("own", "one"))))
    return rows


class BreakingCase(unittest.TestCase):
    def shows(self, book, word):
        """What breaking returns shows the fault, by the rules alone."""
        told = breaking(book, word)
        self.assertIs(type(told), tuple)
        setting, run = told
        self.assertIsInstance(setting, Setting)
        self.assertIs(type(run), list)
        self.assertEqual(setting.book(), book)
        self.assertLessEqual(setting.hands, 3)
        self.assertTrue(is_run(setting, run))
        state = end_of(setting, run)
        if word == "stuck":
            self.assertFalse(is_fault(state))
            self.assertNotEqual(stuck_hands(setting, state, most=20000), [])
        else:
            self.assertEqual(state[0], word)
            self.assertFalse(is_fault(end_of(setting, run[:-1])))
        self.assertIs(breaks(setting, run, word), True)
        for other in WORDS:
            self.assertIs(breaks(setting, run, other), other == word)
        return setting, run

    def no_fault(self, book, word):
        with self.assertRaises(NoFault) as caught:
            breaking(book, word)
        self.assertIs(caught.exception.word, word)


class TestBreaking(BreakingCase):
    def test_every_fault_of_every_book(self):
        many = 0
        for book in first_books() + waking_books() + late_books():
            for word in WORDS:
                if word in faults(book):
                    self.shows(book, word)
                    many += 1
                else:
                    self.no_fault(book, word)
        self.assertEqual(many, sum(len(faults(book)) for book in first_books() + waking_books() + late_books()))

    def test_nets_of_one_and_two_values(self):
        for book in net_books("a") + net_books("ab"):
            for word in WORDS:
                if word in faults(book):
                    self.shows(book, word)
                else:
                    self.no_fault(book, word)

    def test_nets_of_three_values(self):
        for book in net_books("abc")[::5]:
            for word in faults(book):
                self.shows(book, word)

    def test_larger_nets(self):
        books = [NetBook(Net({"a": ("b", "c"), "b": ("c",), "c": ("d", "e"), "d": ("e",), "e": ("c",)})),
                 NetBook(Net({"a": (), "b": ("a", "c"), "c": ("a", "d"), "d": ("a", "e"), "e": ("b",)}), guard="one"),
                 NetBook(Net({"a": ("b", "c", "d", "e"), "b": ("c", "d"), "c": ("d", "e"), "d": ("e",), "e": ("e",)})),
                 NetBook(Net({name: tuple("abcde") for name in "abcde"})),
                 NetBook(Net({name: tuple("edcba") for name in "abcde"}), guard="one")]
        ringed = [book for book in books + larger_books() if book.needs.ring() is not None]
        self.assertGreater(len(ringed), 30)
        for book in ringed:
            self.shows(book, "itself")
            self.shows(book, "stuck")

    def test_the_example(self):
        setting, run = self.shows(FirstBook(again="never"), "twice")
        self.assertEqual((setting.hands, run[-1][1]), (2, "use"))

    def test_some_hands(self):
        self.assertEqual(self.shows(SELF_NET, "itself")[1], [(0, "a"), (0, "own"), (0, "need"), (0, "ask")])
        setting, run = self.shows(WakingBook(wake="one"), "stuck")
        self.assertEqual(stuck_hands(setting, end_of(setting, run)), [2])
        for book, many in ((WakingBook(failure="left"), 3), (WakingBook(wake="none"), 3), (WakingBook(wait="doze"), 4),
                           (WakingBook(wait="doze", wake="none"), 3), (WakingBook(wake="one"), 6)):
            self.assertEqual(len(self.shows(book, "stuck")[1]), many)
        setting, run = self.shows(RING, "stuck")
        self.assertEqual(stuck_hands(setting, end_of(setting, run)), [1])

    def test_half_and_twice_with_two_hands_and_makings_and_itself_with_one_hand(self):
        for book in first_books() + late_books():
            for word in faults(book):
                setting, run = breaking(book, word)
                self.assertEqual((setting.hands, setting.makes), (2, 2))
                self.assertEqual(run, shortest(setting, kind=word))
        for book in (SELF_NET, RING, NetBook(Net({**{name: () for name in "bcde"}, "a": ("b", "c", "d", "e", "a")}))):
            setting, run = breaking(book, "itself")
            self.assertEqual(setting.hands, 1)
            self.assertEqual(run, shortest(setting, kind="itself"))

    def test_right_books_have_none(self):
        for book in (FirstBook(), WakingBook(), LateBook(), RIGHT_NET):
            for word in (*WORDS, "any", "", "none", None):
                self.no_fault(book, word)

    def test_no_fault_for_any_value(self):
        for book in (FirstBook.bare(), WakingBook(wake="none"), LateBook(fences=()), RING):
            word = faults(book)[0]
            for value in [*odd_values(), word.upper(), word + " ", (word,), [word], word.encode(), {word: 1},
                          *[other for other in WORDS if other not in faults(book)]]:
                self.no_fault(book, value)

    def test_no_book_ahead_of_no_fault(self):
        for value in NO_BOOKS:
            for word in ("half", "none", None, Touchy(), value):
                with self.assertRaises(NoBook) as caught:
                    breaking(value, word)
                self.assertIs(caught.exception.value, value)

    def test_a_book_that_is_changed_afterwards(self):
        book = FirstBook.bare()
        setting, run = breaking(book, "twice")
        book.guard = "claim"
        self.assertEqual(setting.book(), FirstBook.bare())
        self.assertIs(breaks(setting, run, "twice"), True)
        self.no_fault(book, "twice")

    def test_a_run_that_was_returned_can_be_changed(self):
        for book in (FirstBook.bare(), WakingBook(wake="none"), LateBook(fences=()), RING):
            for word in faults(book):
                setting, run = breaking(book, word)
                kept = list(run)
                run.clear()
                self.assertEqual(breaking(book, word), (setting, kept))

    def test_names_of_arguments(self):
        self.assertEqual(breaking(word="twice", book=FirstBook.bare()), breaking(FirstBook.bare(), "twice"))
        setting, run = breaking(RING, "itself")
        self.assertIs(breaks(word="itself", run=run, setting=setting), True)


class TestBreaks(BreakingCase):
    def broken(self):
        for book in (FirstBook.bare(), FirstBook(guard="none", writing="cell parts flag"), WakingBook(failure="left"),
                     WakingBook(wake="none"), WakingBook(wait="doze"), WakingBook(wake="one"), LateBook(fences=()),
                     LateBook(look="flag", fences=("reads",)), SELF_NET, RING):
            for word in faults(book):
                yield (*breaking(book, word), word)

    def test_runs_that_are_right(self):
        for setting, run, word in self.broken():
            self.assertIs(breaks(setting, run, word), True)
            self.assertIs(breaks(setting, tuple(run), word), True)

    def test_runs_cut_short(self):
        for setting, run, word in self.broken():
            if word != "stuck":
                for many in range(len(run)):
                    self.assertIs(breaks(setting, run[:many], word), False)
        setting = Setting(WakingBook(wake="none"), 2)
        run = [(0, "claim"), (1, "claim"), (1, "sleep")]
        self.assertEqual([breaks(setting, run[:many], "stuck") for many in range(4)], [False, False, False, True])

    def test_runs_turned_about_and_made_longer(self):
        for setting, run, word in self.broken():
            self.assertIs(breaks(setting, run[::-1], word), False)
            self.assertIs(breaks(setting, run[1:], word), False)
            if word != "stuck":
                self.assertIs(breaks(setting, run + run[-1:], word), False)
            self.assertIs(breaks(setting, [*run, (0, "no")], word), False)

    def test_other_words(self):
        for setting, run, word in self.broken():
            for value in [*odd_values(), "any", word.upper(), word + " ", [word], (word,), {word},
                          *[other for other in WORDS if other != word]]:
                self.assertIs(breaks(setting, run, value), False)

    def test_what_is_no_run(self):
        for setting, run, word in self.broken():
            for value in [*odd_values(), iter(run), dict.fromkeys(run), [run], f"{run}",
                          [list(move) for move in run], play(setting, run)]:
                self.assertIs(breaks(setting, value, word), False)

    def test_runs_without_a_fault(self):
        for setting in SETTINGS:
            for word in WORDS:
                self.assertIs(breaks(setting, [], word), False)

    def test_stuck_behind_any_run(self):
        """Each run of a setting breaks it just if a hand is stuck behind it."""
        for book in (WakingBook(wake="none"), WakingBook(), WakingBook(failure="left"), RING, RIGHT_NET):
            setting = Setting(book, 2)
            runs = {first_state(setting): []}
            for state in all_states(setting):
                for move in play(setting, runs[state]).moves():
                    runs.setdefault(end_of(setting, [*runs[state], move]), [*runs[state], move])
            for state, run in runs.items():
                self.assertIs(breaks(setting, run, "stuck"), not is_fault(state) and stuck_hands(setting, state) != [])

    def test_no_hand_of_a_first_or_late_book_is_stuck(self):
        """A hand for which the setting allows no more makings is not stuck by the word."""
        setting = Setting(FirstBook(look="none", guard="none", again="never"), 2, makes=1)
        run = [(0, "make"), (1, "make")]
        self.assertIs(breaks(setting, run, "stuck"), False)
        setting = Setting(FirstBook(look="flag", guard="lock", again="flag", writing="flag parts cell"), 2, makes=1)
        run = [(0, "look"), (1, "look"), (0, "lock"), (0, "look"), (0, "make")]
        self.assertTrue(is_run(setting, run))
        self.assertIs(breaks(setting, run, "stuck"), False)
        # Here hand 1 has no way out: its lock is held, but the makings are used up.
        setting = Setting(FirstBook(look="flag", again="never", writing="parts cell flag"), 2, makes=1)
        run = [(0, "look"), (1, "look"), (0, "lock"), (0, "make"), *[(0, "write")] * 4, (0, "unlock"), (1, "lock")]
        self.assertEqual(stuck_hands(setting, end_of(setting, run)), [1])
        self.assertIs(breaks(setting, run, "stuck"), False)

    def test_no_setting_ahead_of_all_else(self):
        for value in NO_SETTINGS:
            for run, word in (([], "half"), (None, None), (Touchy(), Touchy()), ([(0, "look")], "stuck")):
                with self.assertRaises(NoSetting) as caught:
                    breaks(value, run, word)
                self.assertIsNone(caught.exception.word)

    def test_errors_are_made_errors(self):
        for call in (lambda: breaking(None, "half"), lambda: breaking(FirstBook(), "half"),
                     lambda: breaks(None, [], "half")):
            with self.assertRaises(MadeError):
                call()


class TestTooMany(BreakingCase):
    def test_more_states_than_twenty_thousand(self):
        """Hand 3 comes out only behind many moves, and the others have very many weavings meanwhile."""
        setting = Setting(NetBook(WIDE_NET), 4)
        with self.assertRaises(TooMany) as caught:
            breaks(setting, [(3, "a")], "stuck")
        self.assertEqual(caught.exception.most, 20000)

    def test_no_search_for_other_words_and_runs(self):
        setting = Setting(NetBook(WIDE_NET), 4)
        for word in ("itself", "half", "any", None):
            self.assertIs(breaks(setting, [(3, "a")], word), False)
        self.assertIs(breaks(setting, [(3, "a"), (3, "make")], "stuck"), False)
        self.assertIs(breaks(setting, [], "stuck"), False)

    def test_twenty_thousand_are_enough_where_two_thousand_are_not(self):
        setting = Setting(NetBook(WIDE_NET), 3)
        with self.assertRaises(TooMany):
            stuck_hands(setting, end_of(setting, [(2, "a")]))
        self.assertIs(breaks(setting, [(2, "a")], "stuck"), False)


if __name__ == "__main__":
    unittest.main()
