"""That searches, tables, breaking, endings and the verdicts tell the same of small settings of every kind of book."""

import unittest

from firstmade.benches import is_run
from firstmade.breaking import breaking, breaks
from firstmade.books import FirstBook, NetBook, WakingBook
from firstmade.endings import endings
from firstmade.nets import Net
from firstmade.rules import first_state, is_fault
from firstmade.searches import all_states, shortest, stuck_hands
from firstmade.settings import Setting
from firstmade.tables import Table, gap, is_closed
from firstmade.verdicts import faults, is_right, most_makings
from tests.exploring import come_to, fault_words, first_books, late_books, net_books, waking_books
from tests.measuring import behind_run

STATE_WORDS = ("half", "twice", "itself")


class AgreeCase(unittest.TestCase):
    def searches_agree(self, setting):
        """The shortest runs, the table of all states and the faults that runs come to."""
        rows = all_states(setting, most=20000)
        words = fault_words(come_to(setting))
        self.assertLessEqual(words, set(faults(setting.book())))
        for word in STATE_WORDS:
            run = shortest(setting, most=20000, kind=word)
            self.assertEqual(run is not None, word in words)
            if run is not None:
                self.assertIs(breaks(setting, run, word), True)
                self.assertGreaterEqual(len(run), len(shortest(setting, most=20000)))
        run = shortest(setting, most=20000)
        self.assertEqual(run is None, not words)
        self.assertIs(is_closed(setting, rows), run is None)
        found = gap(Table(rows), setting)
        if run is None:
            self.assertIsNone(found)
        else:
            self.assertEqual(found, (behind_run(setting, first_state(setting), run[:-1]), run[-1]))

    def breaking_agrees(self, book):
        """A book is right just if nothing breaks it; each fault has a run, and each run a fault of the book."""
        for word in faults(book):
            setting, run = breaking(book, word)
            self.assertTrue(is_run(setting, run))
            self.assertIs(breaks(setting, run, word), True)
            if word != "stuck":
                least = shortest(setting, most=20000, kind=word)
                self.assertLessEqual(len(least), len(run))
                self.assertIs(is_closed(setting, all_states(setting, most=20000)), False)

    def ways_agree(self, setting):
        """Hands are stuck in no state of a right book, and endings brings them out; of a wrong one it tells nothing."""
        for state in all_states(setting, most=20000)[::4]:
            run = endings(setting, state)
            if is_right(setting.book()):
                self.assertEqual(stuck_hands(setting, state, most=20000), [])
                self.assertFalse(is_fault(behind_run(setting, state, run)))
            else:
                self.assertIsNone(run)


class TestAgreeing(AgreeCase):
    def test_first_books(self):
        for book in first_books():
            self.searches_agree(Setting(book))
            self.breaking_agrees(book)
        for book in first_books()[::6]:
            for hands, makes in ((1, 1), (1, 3), (2, 1), (2, 3), (3, 1)):
                self.searches_agree(Setting(book, hands, makes=makes))

    def test_waking_books(self):
        for book in waking_books():
            self.breaking_agrees(book)
            for hands, fails in ((1, 1), (2, 0), (2, 1), (3, 1)):
                setting = Setting(book, hands, fails=fails)
                self.searches_agree(setting)
                self.ways_agree(setting)

    def test_late_books(self):
        for book in late_books():
            self.breaking_agrees(book)
            for hands in (2, 3):
                self.searches_agree(Setting(book, hands))

    def test_net_books(self):
        for book in net_books("a") + net_books("ab") + net_books("abc")[::11]:
            self.breaking_agrees(book)
            for hands in (1, 2):
                self.searches_agree(Setting(book, hands))
                self.ways_agree(Setting(book, hands))

    def test_the_closed_table_of_a_right_book_of_each_kind(self):
        net = Net({"a": ("b",), "b": ()})
        for setting in (Setting(FirstBook(), 3), Setting(WakingBook(), 3), Setting(NetBook(net), 3)):
            rows = all_states(setting)
            self.assertIs(is_closed(setting, rows), True)
            self.assertIs(is_closed(setting, rows[:-1]), False)

    def test_no_right_book_is_made_more_often_than_is_told(self):
        for book in first_books():
            if is_right(book):
                for hands, makes in ((1, 3), (2, 3)):
                    often = max(state[0] for state in all_states(Setting(book, hands, makes=makes)))
                    most = most_makings(book, hands)
                    if most is not None:
                        self.assertEqual(often, min(most, makes))
                    elif hands > 1:
                        # Without a bound it is made as often as the setting allows.
                        self.assertEqual(often, makes)

    def test_hands_of_a_book_that_swaps_use_the_same_thing(self):
        for book in first_books():
            if book.guard == "swap":
                for hands, makes in ((2, 3), (3, 2)):
                    self.assertIsNone(shortest(Setting(book, hands, makes=makes), most=20000, kind="twice"))

    def test_a_waking_book_is_closed_although_a_hand_is_stuck(self):
        setting = Setting(WakingBook(failure="left"), 2)
        self.assertIsNone(shortest(setting))
        self.assertIs(is_closed(setting, all_states(setting)), True)
        self.assertFalse(is_right(setting.book()))


if __name__ == "__main__":
    unittest.main()
