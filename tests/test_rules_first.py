"""First making: the deeds of first books with each value of each switch, state by state."""

import unittest

from firstmade.books import FirstBook
from firstmade.rules import first_state, is_out, moves, step
from firstmade.settings import Setting
from tests.exploring import WRITINGS, come_to, first_books
from tests.walking import WalkCase

OUT = ("out", 0, None)
GUARD = ("guard", 0, None)


def alone(makes=2, **switches):
    return Setting(FirstBook(**switches), 1, makes=makes)


class TestStart(WalkCase):
    def test_first_states(self):
        for book in first_books():
            for hands in (1, 2, 3, 4):
                state = first_state(Setting(book, hands))
                self.assertEqual(state, (0, None, 0, None, (), None, (OUT,) * hands))
                self.assertEqual(repr(state[2]), "0")

    def test_first_moves(self):
        for book in first_books():
            deed = {"none": "make", "swap": "make", "lock": "lock", "claim": "claim"}[book.guard]
            if book.look != "none":
                deed = "look"
            for hands in (1, 2, 4):
                setting = Setting(book, hands)
                self.assertEqual(moves(setting, first_state(setting)), [(hand, deed) for hand in range(hands)])


class TestLook(WalkCase):
    def test_a_word_that_is_not_set_leads_to_the_guard(self):
        for look in ("cell", "flag"):
            for guard, deed in (("none", "make"), ("swap", "make"), ("lock", "lock"), ("claim", "claim")):
                setting = Setting(FirstBook(look=look, guard=guard))
                state = self.walk(setting, ((1, "look"), (0, None, 0, None, (), None, (OUT, GUARD))))
                self.assertEqual(moves(setting, state), [(0, "look"), (1, deed)])

    def test_a_cell_that_is_set_is_had(self):
        setting = Setting(FirstBook(guard="none", writing="cell flag parts"))
        state = self.end_of(setting, (0, "look"), (0, "make"), (0, "write"))
        self.assertEqual(step(setting, state, (1, "look")),
                         (1, 0, 0, None, (0,), None, (("making", 1, 0), ("have", 0, 0))))

    def test_a_flag_alone_is_not_the_cell(self):
        setting = Setting(FirstBook(guard="none", writing="flag cell parts"))
        state = self.end_of(setting, (0, "look"), (0, "make"), (0, "write"))
        self.assertEqual(step(setting, state, (1, "look")), (1, None, 2, None, (0,), None, (("making", 1, 0), GUARD)))

    def test_a_flag_that_is_set_gives_what_is_in_the_cell(self):
        setting = Setting(FirstBook(look="flag", guard="none", writing="flag cell parts"))
        state = self.end_of(setting, (0, "look"), (0, "make"), (0, "write"))
        self.assertEqual(step(setting, state, (1, "look")),
                         (1, None, 2, None, (0,), None, (("making", 1, 0), ("have", 0, None))))
        state = step(setting, state, (0, "write"))
        self.assertEqual(step(setting, state, (1, "look")),
                         (1, 0, 2, None, (0,), None, (("making", 2, 0), ("have", 0, 0))))

    def test_a_cell_alone_is_not_the_flag(self):
        setting = Setting(FirstBook(look="flag", guard="none", writing="cell flag parts"))
        state = self.end_of(setting, (0, "look"), (0, "make"), (0, "write"))
        self.assertEqual(step(setting, state, (1, "look")), (1, 0, 0, None, (0,), None, (("making", 1, 0), GUARD)))

    def test_a_claimed_flag_is_not_set(self):
        setting = Setting(FirstBook(look="flag", guard="claim"))
        state = self.end_of(setting, (0, "look"), (0, "claim"))
        self.assertEqual(step(setting, state, (1, "look"))[-1], (("making", 0, 0), GUARD))

    def test_the_second_thing_is_had_too(self):
        setting = Setting(FirstBook(guard="none", writing="cell parts flag"))
        state = self.end_of(setting, (0, "look"), (1, "look"), (0, "make"), (1, "make"), (0, "write"), (1, "write"),
                            (0, "write"), (0, "write"), (0, "write"), (0, "end"))
        self.assertEqual(step(setting, state, (0, "look")),
                         (2, 1, 2, None, (2, 0), None, (("have", 0, 1), ("making", 1, 1))))


class TestMake(WalkCase):
    def test_without_a_guard(self):
        for guard in ("none", "swap"):
            for look, mode in (("none", OUT), ("cell", GUARD), ("flag", GUARD)):
                setting = Setting(FirstBook(look=look, guard=guard))
                run = [] if look == "none" else [(0, "look"), (1, "look")]
                state = self.end_of(setting, *run)
                self.assertEqual(moves(setting, state), [(0, "make"), (1, "make")])
                state = step(setting, state, (1, "make"))
                self.assertEqual(state, (1, None, 0, None, (0,), None, (mode, ("making", 0, 0))))
                state = step(setting, state, (0, "make"))
                self.assertEqual(state, (2, None, 0, None, (0, 0), None, (("making", 0, 1), ("making", 0, 0))))
                self.assertEqual(moves(setting, state), [(0, "write"), (1, "write")])

    def test_no_more_than_makes(self):
        for guard in ("none", "swap"):
            for look in ("none", "cell"):
                for makes in (1, 2, 3):
                    setting = Setting(FirstBook(look=look, guard=guard), 4, makes=makes)
                    state = self.end_of(setting, *[(hand, "look") for hand in range(4) if look != "none"])
                    for hand in range(makes):
                        self.assertEqual(moves(setting, state)[hand:], [(other, "make") for other in range(hand, 4)])
                        state = step(setting, state, (hand, "make"))
                    self.assertEqual(moves(setting, state), [(hand, "write") for hand in range(makes)])

    def test_no_more_than_makes_behind_the_lock(self):
        for again in ("never", "cell", "flag"):
            setting = alone(makes=1, look="none", again=again)
            looks = [] if again == "never" else [(0, "look")]
            state = self.end_of(setting, (0, "lock"), *looks, (0, "make"), *[(0, "write")] * 4, (0, "unlock"),
                                (0, "end"), (0, "lock"))
            self.assertEqual(moves(setting, state), [] if again == "never" else [(0, "look")])

    def test_a_claim_needs_a_making_only_at_first(self):
        setting = Setting(FirstBook(look="none", guard="claim"), makes=1)
        state = self.end_of(setting, (0, "claim"))
        self.assertEqual(moves(setting, state), [(0, "write"), (1, "claim")])

    def test_makes_count_all_hands(self):
        setting = Setting(FirstBook(look="none", guard="none"), makes=2)
        state = self.end_of(setting, (0, "make"), *[(0, "write")] * 4, (0, "end"), (0, "make"))
        self.assertEqual(state[0], 2)
        self.assertEqual(moves(setting, state), [(0, "write")])


class TestLock(WalkCase):
    def test_one_hand_has_it(self):
        for look, mode in (("none", OUT), ("cell", GUARD)):
            setting = Setting(FirstBook(look=look), 3)
            state = self.end_of(setting, *[(hand, "look") for hand in range(3) if look != "none"])
            self.assertEqual(moves(setting, state), [(0, "lock"), (1, "lock"), (2, "lock")])
            state = step(setting, state, (1, "lock"))
            self.assertEqual(state, (0, None, 0, 1, (), None, (mode, ("locked", 0, None), mode)))
            self.assertEqual(moves(setting, state), [(1, "look")])

    def test_never_again(self):
        setting = alone(look="none", again="never")
        self.assertEqual(self.deeds(setting, self.end_of(setting, (0, "lock")), 0), ["make"])
        self.walk(setting, ((0, "lock"), (0, None, 0, 0, (), None, (("locked", 0, None),))),
                  ((0, "make"), (1, None, 0, 0, (0,), None, (("making", 0, 0),))))

    def test_again_and_not_set(self):
        for again in ("cell", "flag"):
            setting = alone(look="none", again=again)
            state = self.walk(setting, ((0, "lock"), (0, None, 0, 0, (), None, (("locked", 0, None),))),
                              ((0, "look"), (0, None, 0, 0, (), None, (("sure", 0, None),))))
            self.assertEqual(moves(setting, state), [(0, "make")])
            self.assertEqual(step(setting, state, (0, "make")), (1, None, 0, 0, (0,), None, (("making", 0, 0),)))

    def test_again_and_set(self):
        for again in ("cell", "flag"):
            for look in ("none", "cell", "flag"):
                setting = Setting(FirstBook(look=look, again=again))
                looks = [] if look == "none" else [(0, "look"), (1, "look")]
                state = self.end_of(setting, *looks, (0, "lock"), (0, "look"), (0, "make"), *[(0, "write")] * 4,
                                    (0, "unlock"), (1, "lock"))
                state = step(setting, state, (1, "look"))
                self.assertEqual(state, (1, 0, 2, 1, (2,), None, (("have", 0, 0), ("holding", 0, 0))))
                self.assertEqual(moves(setting, state), [(0, "use"), (0, "end"), (1, "unlock")])

    def test_again_goes_by_its_own_word(self):
        # In runs both words are set when the lock is given back: the lock is moved by hand to tell them apart.
        for again, writing, told in (("cell", "cell flag parts", "holding"), ("flag", "cell flag parts", "sure"),
                                     ("cell", "flag cell parts", "sure"), ("flag", "flag cell parts", "holding")):
            setting = Setting(FirstBook(look="none", again=again, writing=writing))
            state = self.end_of(setting, (0, "lock"), (0, "look"), (0, "make"), (0, "write"))
            made, cell, flag, _, parts, used, hands = state
            state = (made, cell, flag, 1, parts, used, (hands[0], ("locked", 0, None)))
            self.assertEqual(step(setting, state, (1, "look"))[-1][1], (told, 0, cell if told == "holding" else None))

    def test_unlock(self):
        setting = Setting(FirstBook(look="none"))
        state = self.end_of(setting, (1, "lock"), (1, "look"), (1, "make"), *[(1, "write")] * 4)
        self.assertEqual(state, (1, 0, 2, 1, (2,), None, (OUT, ("holding", 0, 0))))
        self.assertEqual(moves(setting, state), [(1, "unlock")])
        state = step(setting, state, (1, "unlock"))
        self.assertEqual(state, (1, 0, 2, None, (2,), None, (OUT, ("have", 0, 0))))
        self.assertEqual(moves(setting, state), [(0, "lock"), (1, "use"), (1, "end")])


class TestClaim(WalkCase):
    def test_the_first_one_makes_the_others_wait(self):
        for look, mode in (("none", OUT), ("flag", GUARD), ("cell", GUARD)):
            setting = Setting(FirstBook(look=look, guard="claim"), 3)
            state = self.end_of(setting, *[(hand, "look") for hand in range(3) if look != "none"], (1, "claim"))
            self.assertEqual(state, (1, None, 1, None, (0,), None, (mode, ("making", 0, 0), mode)))
            self.assertEqual(moves(setting, state), [(0, "claim"), (1, "write"), (2, "claim")])
            state = step(setting, state, (2, "claim"))
            self.assertEqual(state, (1, None, 1, None, (0,), None, (mode, ("making", 0, 0), ("waiting", 0, None))))
            self.assertEqual(moves(setting, state), [(0, "claim"), (1, "write"), (2, "look")])
            self.assertEqual(step(setting, state, (2, "look")), state)

    def test_a_claim_of_what_is_made_waits_too(self):
        setting = Setting(FirstBook(look="none", guard="claim"), makes=1)
        state = self.end_of(setting, (0, "claim"), *[(0, "write")] * 4)
        state = step(setting, state, (1, "claim"))
        self.assertEqual(state, (1, 0, 2, None, (2,), None, (("have", 0, 0), ("waiting", 0, None))))
        state = step(setting, state, (1, "look"))
        self.assertEqual(state, (1, 0, 2, None, (2,), None, (("have", 0, 0), ("have", 0, 0))))

    def test_waiting_goes_by_the_flag_whatever_look_is(self):
        for look in ("none", "cell", "flag"):
            setting = Setting(FirstBook(look=look, guard="claim", writing="cell flag parts"))
            state = self.end_of(setting, *[(hand, "look") for hand in (0, 1) if look != "none"], (0, "claim"),
                                (1, "claim"), (0, "write"))
            self.assertEqual(state[:3], (1, 0, 1))
            self.assertEqual(step(setting, state, (1, "look")), state)
            state = self.end_of(setting, *[(hand, "look") for hand in (0, 1) if look != "none"], (0, "claim"),
                                (1, "claim"), (0, "write"), (0, "write"), (1, "look"))
            self.assertEqual(state, (1, 0, 2, None, (0,), None, (("making", 2, 0), ("have", 0, 0))))

    def test_waiting_for_a_cell_that_is_empty(self):
        setting = Setting(FirstBook(look="none", guard="claim", writing="flag parts cell"))
        state = self.end_of(setting, (0, "claim"), (1, "claim"), (0, "write"), (1, "look"))
        self.assertEqual(state, (1, None, 2, None, (0,), None, (("making", 1, 0), ("have", 0, None))))


class TestWrite(WalkCase):
    def test_every_order(self):
        for writing in WRITINGS:
            for guard, last, lock in (("none", "have", None), ("lock", "holding", 0), ("claim", "have", None),
                                      ("swap", "have", None)):
                setting = alone(look="none", guard=guard, again="never", writing=writing)
                run = {"lock": [(0, "lock"), (0, "make")], "claim": [(0, "claim")]}.get(guard, [(0, "make")])
                state = self.end_of(setting, *run)
                cell, flag, parts = None, 1 if guard == "claim" else 0, 0
                writes = [word for part in writing.split() for word in [part] * (2 if part == "parts" else 1)]
                for at, word in enumerate(writes, 1):
                    self.assertEqual(moves(setting, state), [(0, "write")])
                    state = step(setting, state, (0, "write"))
                    cell = 0 if word == "cell" else cell
                    flag = 2 if word == "flag" else flag
                    parts += word == "parts"
                    told = ("making", at, 0) if at < 4 else (last, 0, 0)
                    self.assertEqual(state, (1, cell, flag, lock, (parts,), None, (told,)))

    def test_a_later_thing_takes_the_place_of_another(self):
        for guard in ("none", "lock"):
            setting = Setting(FirstBook(guard=guard, again="never"))
            state = self.end_of(setting, (0, "look"), (1, "look"), *[(0, "lock")] * (guard == "lock"), (0, "make"),
                                *[(0, "write")] * 4, *[(0, "unlock"), (1, "lock")] * (guard == "lock"), (1, "make"),
                                (1, "write"), (1, "write"))
            lock = 1 if guard == "lock" else None
            self.assertEqual(state, (2, 0, 2, lock, (2, 2), None, (("have", 0, 0), ("making", 2, 1))))
            self.assertEqual(step(setting, state, (1, "write")),
                             (2, 1, 2, lock, (2, 2), None, (("have", 0, 0), ("making", 3, 1))))

    def test_parts_of_the_own_thing_alone(self):
        setting = Setting(FirstBook(look="none", guard="none"), 3, makes=3)
        state = self.end_of(setting, (2, "make"), (0, "make"), (1, "make"), (0, "write"), (0, "write"), (1, "write"))
        self.assertEqual(state, (3, None, 0, None, (0, 2, 1), None,
                                 (("making", 2, 1), ("making", 1, 2), ("making", 0, 0))))

    def test_a_swap_that_comes_too_late(self):
        setting = Setting(FirstBook(guard="swap"))
        state = self.end_of(setting, (0, "look"), (1, "look"), (0, "make"), (1, "make"), *[(1, "write")] * 3,
                            (0, "write"), (0, "write"))
        self.assertEqual(state, (2, 1, 0, None, (2, 2), None, (("making", 2, 0), ("making", 3, 1))))
        state = step(setting, state, (0, "write"))
        self.assertEqual(state, (2, 1, 0, None, (2, 2), None, (("have", 0, 1), ("making", 3, 1))))
        self.assertEqual(moves(setting, state), [(0, "use"), (0, "end"), (1, "write")])

    def test_a_swap_that_comes_too_late_ends_all_writes(self):
        for writing, many, flag, parts in (("cell parts flag", 0, 0, (0, 0)), ("flag cell parts", 1, 2, (0, 0)),
                                           ("cell flag parts", 0, 0, (0, 0)), ("parts cell flag", 2, 0, (2, 2)),
                                           ("parts flag cell", 3, 2, (2, 2)), ("flag parts cell", 3, 2, (2, 2))):
            setting = Setting(FirstBook(look="none", guard="swap", writing=writing))
            state = self.end_of(setting, (0, "make"), (1, "make"), *[(0, "write")] * (many + 1), *[(1, "write")] * many)
            if writing[-4:] == "cell":
                told = ("have", 0, 0)
            else:
                told = ("making", many + 1, 0)
            self.assertEqual(state, (2, 0, flag, None, parts, None, (told, ("making", many, 1))))
            state = step(setting, state, (1, "write"))
            self.assertEqual(state, (2, 0, flag, None, parts, None, (told, ("have", 0, 0))))


class TestUse(WalkCase):
    def test_use_and_end(self):
        setting = Setting(FirstBook(look="none", guard="claim"))
        state = self.end_of(setting, (1, "claim"), *[(1, "write")] * 4)
        self.assertEqual(moves(setting, state), [(0, "claim"), (1, "use"), (1, "end")])
        used = step(setting, state, (1, "use"))
        self.assertEqual(used, (1, 0, 2, None, (2,), 0, (OUT, ("have", 0, 0))))
        self.assertEqual(moves(setting, used), moves(setting, state))
        self.assertEqual(step(setting, used, (1, "use")), used)
        self.assertEqual(step(setting, used, (1, "end")), (1, 0, 2, None, (2,), 0, (OUT, OUT)))
        self.assertEqual(step(setting, state, (1, "end")), (1, 0, 2, None, (2,), None, (OUT, OUT)))

    def test_the_same_thing_by_two_hands(self):
        setting = Setting(FirstBook())
        state = self.end_of(setting, (0, "look"), (0, "lock"), (0, "look"), (0, "make"), *[(0, "write")] * 4,
                            (0, "unlock"), (0, "use"), (1, "look"), (1, "use"))
        self.assertEqual(state, (1, 0, 2, None, (2,), 0, (("have", 0, 0), ("have", 0, 0))))

    def test_half(self):
        for many in (0, 1):
            setting = Setting(FirstBook(guard="none", writing="cell parts flag"))
            state = self.end_of(setting, (0, "look"), (0, "make"), *[(0, "write")] * (many + 1), (1, "look"))
            self.assertEqual(state[4], (many,))
            self.is_last(setting, step(setting, state, (1, "use")), "half", 1, 0)
        state = self.end_of(setting, (0, "look"), (0, "make"), *[(0, "write")] * 3, (1, "look"), (1, "use"))
        self.assertEqual(state[5:], (0, (("making", 3, 0), ("have", 0, 0))))

    def test_half_of_nothing(self):
        setting = Setting(FirstBook(look="flag", guard="none", writing="flag parts cell"))
        state = self.end_of(setting, (1, "look"), (1, "make"), (1, "write"), (0, "look"), (0, "use"))
        self.is_last(setting, state, "half", 0, None)

    def test_half_goes_by_the_thing_had_and_not_by_the_cell(self):
        setting = Setting(FirstBook(look="flag", guard="none", writing="flag parts cell"))
        state = self.end_of(setting, (1, "look"), (1, "make"), (1, "write"), (0, "look"), *[(1, "write")] * 3, (0, "use"))
        self.is_last(setting, state, "half", 0, None)

    def test_twice(self):
        setting = Setting(FirstBook.bare())
        run = [(0, "look"), (1, "look"), (0, "make"), (1, "make"), *[(0, "write")] * 4, *[(1, "write")] * 4]
        state = self.end_of(setting, *run, (0, "use"))
        self.assertEqual(state, (2, 1, 2, None, (2, 2), 0, (("have", 0, 0), ("have", 0, 1))))
        self.is_last(setting, step(setting, state, (1, "use")), "twice", 1, 1)
        state = self.end_of(setting, *run, (1, "use"))
        self.is_last(setting, step(setting, state, (0, "use")), "twice", 0, 0)

    def test_half_is_told_ahead_of_twice(self):
        setting = Setting(FirstBook(look="cell", guard="none", writing="cell parts flag"), 3)
        state = self.end_of(setting, (0, "look"), (1, "look"), (0, "make"), *[(0, "write")] * 4, (0, "use"),
                            (1, "make"), (1, "write"), (2, "look"))
        self.assertEqual(state[5:], (0, (("have", 0, 0), ("making", 1, 1), ("have", 0, 1))))
        self.is_last(setting, step(setting, state, (2, "use")), "half", 2, 1)

    def test_what_is_used_later_does_not_count(self):
        setting = Setting(FirstBook.bare(), 3)
        state = self.end_of(setting, (0, "look"), (1, "look"), (0, "make"), (1, "make"), *[(0, "write")] * 4, (2, "look"),
                            *[(1, "write")] * 4, (0, "use"), (2, "use"))
        self.assertEqual(state[5:], (0, (("have", 0, 0), ("have", 0, 1), ("have", 0, 0))))

    def test_used_stays_behind_the_end(self):
        setting = Setting(FirstBook(look="none", guard="none"), 1, makes=2)
        run = [(0, "make"), *[(0, "write")] * 4]
        state = self.end_of(setting, *run, (0, "use"), (0, "end"), *run)
        self.is_last(setting, step(setting, state, (0, "use")), "twice", 0, 1)


class TestOut(WalkCase):
    def test_a_hand_is_out_in_its_first_mode_alone(self):
        modes = {"out": True, "guard": False, "waiting": False, "locked": False, "sure": False, "making": False,
                 "holding": False, "have": False}
        met = set()
        for book in (FirstBook(), FirstBook(look="flag", guard="claim"), FirstBook.bare()):
            setting = Setting(book)
            for state in come_to(setting):
                for hand in (0, 1):
                    mode = state[-1][hand][0]
                    met.add(mode)
                    self.assertIs(is_out(setting, state, hand), modes[mode])
        self.assertEqual(met, set(modes))

    def test_what_a_hand_is_when_it_has_nothing(self):
        for book in first_books()[::7]:
            for state in come_to(Setting(book)):
                for mode, at, thing in state[-1]:
                    if mode in ("out", "guard", "waiting", "locked", "sure"):
                        self.assertEqual((at, thing), (0, None))
                    if mode in ("have", "holding"):
                        self.assertEqual(at, 0)


class TestSwitchesThatDoNotMatter(WalkCase):
    def test_fails_of_a_first_book(self):
        for fails in (0, 4):
            self.assertEqual(come_to(Setting(FirstBook(), fails=fails)), come_to(Setting(FirstBook())))

    def test_again_without_a_lock(self):
        for guard in ("none", "claim", "swap"):
            rows = [come_to(Setting(FirstBook(guard=guard, again=again))) for again in ("never", "cell", "flag")]
            self.assertEqual(rows[0], rows[1])
            self.assertEqual(rows[0], rows[2])


if __name__ == "__main__":
    unittest.main()
