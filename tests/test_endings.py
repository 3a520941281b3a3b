"""Endings: runs that bring all hands out."""

import random
import unittest

from firstmade.books import FirstBook, LateBook, NetBook, WakingBook
from firstmade.endings import endings
from firstmade.errors import MadeError, NoSetting
from firstmade.nets import Net
from firstmade.rules import first_state, is_fault, is_out, moves, step
from firstmade.searches import all_states
from firstmade.settings import Setting
from firstmade.verdicts import is_right
from tests.exploring import come_to, first_books, late_books, net_books, waking_books
from tests.measuring import behind_run
from tests.odd_values import odd_values
from tests.samples import NO_SETTINGS, RIGHT_NET, RING, SELF_NET, WIDE_NET


class EndingCase(unittest.TestCase):
    def ends(self, setting, state):
        run = endings(setting, state)
        self.assertIs(type(run), list)
        last = state
        for move in run:
            self.assertIn(move, moves(setting, last))
            last = step(setting, last, move)
        for hand in range(setting.hands):
            self.assertIs(is_out(setting, last, hand), True)
        return run

    def ends_of_all(self, setting):
        for state in come_to(setting):
            self.ends(setting, state)


class TestEndings(EndingCase):
    def test_every_right_waking_book(self):
        many = 0
        for book in waking_books():
            if is_right(book):
                many += 1
                for hands, fails in ((1, 0), (1, 2), (2, 0), (2, 1), (2, 3), (3, 1)):
                    self.ends_of_all(Setting(book, hands, fails=fails))
        self.assertEqual(many, 12)

    def test_four_hands_that_sleep(self):
        for book in (WakingBook(wake="chain"), WakingBook(wake="chain", failure="kept"), WakingBook(wake="all")):
            self.ends_of_all(Setting(book, 4, fails=1))

    def test_nets_without_rings(self):
        for book in net_books("a") + net_books("ab") + net_books("abc")[::7]:
            if is_right(book):
                for hands in (1, 2):
                    self.ends_of_all(Setting(book, hands))
        for book in net_books("ab"):
            if is_right(book):
                self.ends_of_all(Setting(book, 3))

    def test_large_nets_from_states_that_drawn_runs_come_to(self):
        """Settings of so many states that none could be searched through."""
        drawn = random.Random(7)
        nets = [WIDE_NET,
                Net({"a": (), "b": ("a",), "c": ("b", "a"), "d": ("a", "c"), "e": ("d", "b")}),
                Net({name: () for name in "abcde"})]
        for net in nets:
            for guard in ("own", "one"):
                setting = Setting(NetBook(net, guard=guard), 4)
                for many in range(0, 60, 2):
                    state = first_state(setting)
                    for _ in range(many):
                        possible = moves(setting, state)
                        if possible:
                            state = step(setting, state, drawn.choice(possible))
                    self.ends(setting, state)

    def test_who_makes_goes_first(self):
        """A hand that looked ahead of the making would wait again."""
        setting = Setting(WakingBook(wait="spin"), 3)
        self.assertEqual(len(self.ends(setting, (1, 1, ("waiting", "waiting", "making")))), 6)
        setting = Setting(WakingBook(wake="chain"), 4)
        self.ends(setting, (1, 1, ("asleep", "woken", "asleep", "making")))

    def test_all_are_out(self):
        for book in (WakingBook(), RIGHT_NET):
            setting = Setting(book, 3)
            self.assertEqual(endings(setting, first_state(setting)), [])
        self.assertEqual(endings(Setting(WakingBook(), 2), (2, 0, ("out", "out"))), [])

    def test_a_value_that_is_called_as_a_deed_is(self):
        setting = Setting(NetBook(Net({"finish": ("make",), "make": ()})), 2)
        self.ends_of_all(setting)

    def test_a_list_that_was_returned_can_be_changed(self):
        setting = Setting(WakingBook(), 2)
        state = (1, 1, ("making", "asleep"))
        run = endings(setting, state)
        kept = list(run)
        run.clear()
        self.assertEqual(endings(state=state, setting=setting), kept)


class TestNone(EndingCase):
    def test_other_books(self):
        for book in first_books()[::11] + late_books():
            setting = Setting(book)
            for state in all_states(setting)[::10]:
                self.assertIsNone(endings(setting, state))

    def test_wrong_books(self):
        for book in waking_books():
            if not is_right(book):
                setting = Setting(book, 3)
                for state in all_states(setting)[::9]:
                    self.assertIsNone(endings(setting, state))
        for book in (SELF_NET, RING, NetBook(Net({"a": ("a",), "b": ()}), guard="one")):
            setting = Setting(book)
            for state in all_states(setting):
                self.assertIsNone(endings(setting, state))

    def test_faults(self):
        faults = [("itself", 0, "a"), ("half", 1, None), ("twice", 0, 1)]
        for book in (FirstBook(), WakingBook(), LateBook(), RING, RIGHT_NET, WakingBook(wake="none")):
            for fault in faults:
                self.assertTrue(is_fault(fault))
                self.assertIsNone(endings(Setting(book), fault))

    def test_no_setting_whatever_state_is(self):
        state = first_state(Setting(WakingBook()))
        for value in NO_SETTINGS:
            for other in [state, ("half", 0, None), *odd_values()]:
                with self.assertRaises(NoSetting) as caught:
                    endings(value, other)
                self.assertIsNone(caught.exception.word)
        with self.assertRaises(MadeError):
            endings(None, None)

    def test_the_setting_is_not_changed(self):
        setting = Setting(WakingBook(), 2)
        state = (1, 1, ("making", "asleep"))
        run = endings(setting, state)
        self.assertEqual(setting, Setting(WakingBook(), 2))
        self.assertEqual(endings(setting, state), run)
        self.assertEqual(behind_run(setting, state, run), (2, 1, ("out", "out")))


if __name__ == "__main__":
    unittest.main()
