"""Rules: what holds for all kinds of books, and wrong settings and moves."""

import unittest

from firstmade.books import FirstBook, LateBook, NetBook, WakingBook
from firstmade.errors import MadeError, NoMove, NoSetting
from firstmade.nets import Net
from firstmade.rules import first_state, is_fault, is_out, moves, step
from firstmade.settings import Setting
from tests.exploring import come_to
from tests.odd_values import odd_values

SETTINGS = [
    Setting(FirstBook()), Setting(FirstBook(look="flag", guard="claim", writing="flag parts cell"), 3, makes=1),
    Setting(FirstBook.bare(), makes=2), Setting(FirstBook(look="none", guard="swap"), 2, makes=3),
    Setting(WakingBook()), Setting(WakingBook(wait="doze", wake="chain"), 3, fails=2),
    Setting(LateBook()), Setting(LateBook(look="flag", fences=()), 3),
    Setting(NetBook(Net({"a": ("b",), "b": ("a",)}))), Setting(NetBook(Net({"a": ("b",), "b": ()}), guard="one"), 3),
]
DEEDS = ("look", "make", "lock", "claim", "write", "unlock", "use", "end", "sleep", "doze", "finish", "fail", "fence",
         "one", "two", "cell", "flag", "peek", "a", "b", "take", "ask", "own", "need")
FAULTS = [("half", 0, None), ("half", 1, 0), ("twice", 2, 1), ("itself", 3, "a")]


def no_moves(possible):
    """Values of many kinds that are none of the possible moves, some much like them."""
    rows = [(hand, deed) for hand in range(-2, 6) for deed in DEEDS if (hand, deed) not in possible]
    for hand, deed in possible:
        rows += [[hand, deed], (deed, hand), (hand, deed, None), (hand,), (hand, deed.upper()), (hand, deed + " "),
                 (hand, deed.encode()), (float(hand), deed), (str(hand), deed), (hand, [deed]), ((hand, deed),), deed,
                 hand, f"{hand} {deed}", {hand: deed}, (hand + 10 ** 50, deed), (None, deed), (hand, None)]
    # A truth is no number, although it is equal to one.
    rows += [(truth, deed) for truth in (True, False) for deed in DEEDS]
    rows += [(hand, value) for value in odd_values() for hand in (0, 1)]
    rows += [(value, deed) for value in odd_values() if not (isinstance(value, int) and not isinstance(value, bool))
             for deed in ("look", "claim", "write", "a")]
    return rows + odd_values()


class TestSteps(unittest.TestCase):
    def no_move(self, setting, state, move):
        with self.assertRaises(NoMove) as caught:
            step(setting, state, move)
        self.assertIsNone(caught.exception.index)

    def test_every_possible_move_leads_to_a_state(self):
        for setting in SETTINGS:
            for state in come_to(setting):
                self.assertIsInstance(state, tuple)
                self.assertIs(is_fault(state), False)
                for move in moves(setting, state):
                    self.assertIsInstance(step(setting, state, move), tuple)

    def test_moves_by_the_numbers_of_the_hands_and_none_twice(self):
        for setting in SETTINGS:
            for state in come_to(setting):
                rows = moves(setting, state)
                self.assertEqual([hand for hand, _ in rows], sorted(hand for hand, _ in rows))
                self.assertEqual(len(rows), len(set(rows)))
                self.assertTrue(all(type(move) is tuple and type(move[0]) is int and type(move[1]) is str
                                    for move in rows))

    def test_what_is_no_possible_move(self):
        for setting in SETTINGS:
            states = list(come_to(setting))
            for state in [states[0], states[len(states) // 2], states[-1]]:
                for value in no_moves(moves(setting, state)):
                    self.no_move(setting, state, value)

    def test_hands_beyond_the_setting(self):
        for book in (FirstBook(), WakingBook(), NetBook(Net({"a": ()}))):
            deed = moves(Setting(book), first_state(Setting(book)))[0][1]
            for hands in (1, 2, 3):
                setting = Setting(book, hands)
                for hand in (hands, hands + 1, -1, -hands):
                    self.no_move(setting, first_state(setting), (hand, deed))

    def test_no_moves_behind_a_fault(self):
        for setting in SETTINGS:
            for fault in FAULTS:
                self.assertEqual(moves(setting, fault), [])
                for value in [(0, deed) for deed in DEEDS] + odd_values():
                    self.no_move(setting, fault, value)

    def test_every_fault_that_is_come_to_tells_word_hand_and_what(self):
        words = set()
        for setting in SETTINGS:
            for state, row in come_to(setting).items():
                for move, behind in zip(moves(setting, state), row):
                    if is_fault(behind):
                        word, hand, what = behind
                        words.add(word)
                        self.assertEqual(hand, move[0])
                        self.assertEqual(moves(setting, behind), [])
        self.assertEqual(words, {"half", "twice", "itself"})

    def test_like_calls_tell_the_same_and_lists_are_new(self):
        for setting in SETTINGS:
            state = first_state(setting)
            rows = moves(setting, state)
            kept = list(rows)
            rows.clear()
            self.assertEqual(moves(setting, state), kept)
            self.assertEqual(first_state(setting), state)
            self.assertEqual(step(setting, state, kept[0]), step(setting, state, kept[0]))

    def test_names_of_arguments(self):
        for setting in SETTINGS:
            state = first_state(setting=setting)
            rows = moves(state=state, setting=setting)
            self.assertEqual(rows, moves(setting, state))
            self.assertEqual(step(move=rows[0], state=state, setting=setting), step(setting, state, rows[0]))
            self.assertIs(is_fault(state=state), False)
            self.assertIs(is_out(hand=1, state=state, setting=setting), is_out(setting, state, 1))

    def test_the_book_of_a_setting_that_is_told_can_be_changed(self):
        setting = Setting(FirstBook())
        setting.book().guard = "claim"
        state = step(setting, first_state(setting), (0, "look"))
        self.assertEqual(moves(setting, state), [(0, "lock"), (1, "look")])


class TestNoSetting(unittest.TestCase):
    def test_what_is_no_setting(self):
        state = first_state(SETTINGS[0])
        values = odd_values() + [FirstBook(), Setting, state, (FirstBook(), 2, 2, 1), {"book": FirstBook()}]
        for value in values:
            calls = [lambda: first_state(value), lambda: is_out(value, state, 0)]
            for odd in odd_values() + [state, FAULTS[0]]:
                calls += [lambda odd=odd: moves(value, odd), lambda odd=odd: step(value, odd, odd),
                          lambda odd=odd: step(value, state, odd), lambda odd=odd: step(value, odd, (0, "look"))]
            for call in calls:
                with self.assertRaises(NoSetting) as caught:
                    call()
                self.assertIsNone(caught.exception.word)

    def test_errors_are_under_made_error(self):
        with self.assertRaises(MadeError):
            first_state(None)
        with self.assertRaises(MadeError):
            step(SETTINGS[0], first_state(SETTINGS[0]), None)


class TestIsFault(unittest.TestCase):
    def test_faults_and_states(self):
        for fault in FAULTS:
            self.assertIs(is_fault(fault), True)
        for setting in SETTINGS:
            self.assertIs(is_fault(first_state(setting)), False)


if __name__ == "__main__":
    unittest.main()
