"""Waking: the deeds of waking books with each value of each switch, state by state."""

import unittest

from firstmade.books import WakingBook
from firstmade.rules import first_state, is_fault, is_out, moves, step
from firstmade.settings import Setting
from tests.exploring import come_to, waking_books
from tests.walking import WalkCase


def setting_of(hands, fails=1, **switches):
    return Setting(WakingBook(**switches), hands, fails=fails)


class TestStart(WalkCase):
    def test_first_states_and_moves(self):
        for book in waking_books():
            for hands in (1, 2, 3, 4):
                for fails in range(5):
                    setting = Setting(book, hands, fails=fails)
                    state = first_state(setting)
                    self.assertEqual(state, (0, fails, ("out",) * hands))
                    self.assertEqual(moves(setting, state), [(hand, "claim") for hand in range(hands)])

    def test_no_faults(self):
        for book in waking_books():
            for state, row in come_to(Setting(book)).items():
                self.assertFalse(any([is_fault(other) for other in [state, *row]]))

    def test_makes_do_not_matter(self):
        for makes in (1, 6):
            self.assertEqual(come_to(Setting(WakingBook(), makes=makes)), come_to(Setting(WakingBook())))


class TestClaim(WalkCase):
    def test_by_the_flag(self):
        for book in waking_books():
            setting = Setting(book)
            state = self.walk(setting, ((1, "claim"), (1, 1, ("out", "making"))))
            self.assertEqual(step(setting, state, (0, "claim")), (1, 1, ("waiting", "making")))
            state = step(setting, state, (1, "finish"))
            self.assertEqual(state, (2, 1, ("out", "done")))
            self.assertEqual(step(setting, state, (0, "claim")), (2, 1, ("done", "done")))

    def test_by_a_flag_that_tells_of_a_failure(self):
        for failure, flag, told in (("again", 0, (1, 0, ("making", "refused"))), ("kept", 3, (3, 0, ("refused", "refused"))),
                                    ("left", 1, (1, 0, ("waiting", "refused")))):
            setting = setting_of(2, failure=failure)
            state = self.end_of(setting, (1, "claim"), (1, "fail"))
            self.assertEqual(state, (flag, 0, ("out", "refused")))
            self.assertEqual(step(setting, state, (0, "claim")), told)


class TestMaking(WalkCase):
    def test_finish_then_fail(self):
        for fails in range(5):
            setting = setting_of(1, fails=fails)
            state = self.end_of(setting, (0, "claim"))
            self.assertEqual(moves(setting, state), [(0, "finish"), (0, "fail")][:1 + (fails > 0)])

    def test_finish(self):
        for failure in ("again", "kept", "left"):
            setting = setting_of(1, failure=failure)
            state = self.walk(setting, ((0, "claim"), (1, 1, ("making",))), ((0, "finish"), (2, 1, ("done",))))
            self.assertEqual(moves(setting, state), [(0, "end")])
            self.assertEqual(step(setting, state, (0, "end")), (2, 1, ("out",)))

    def test_fail(self):
        for failure, flag in (("again", 0), ("kept", 3), ("left", 1)):
            setting = setting_of(1, fails=3, failure=failure)
            state = self.walk(setting, ((0, "claim"), (1, 3, ("making",))), ((0, "fail"), (flag, 2, ("refused",))))
            self.assertEqual(moves(setting, state), [(0, "end")])
            self.assertEqual(step(setting, state, (0, "end")), (flag, 2, ("out",)))

    def test_failures_run_out(self):
        setting = setting_of(1, fails=2)
        state = self.end_of(setting, *[(0, "claim"), (0, "fail"), (0, "end")] * 2, (0, "claim"))
        self.assertEqual(state, (1, 0, ("making",)))
        self.assertEqual(moves(setting, state), [(0, "finish")])

    def test_once_made_nothing_is_made(self):
        setting = setting_of(1)
        state = self.end_of(setting, (0, "claim"), (0, "finish"), (0, "end"), (0, "claim"))
        self.assertEqual(state, (2, 1, ("done",)))


class TestWaiting(WalkCase):
    def waiting(self, *rest, **switches):
        setting = setting_of(2, **switches)
        return setting, self.end_of(setting, (0, "claim"), (1, "claim"), *rest)

    def test_deeds(self):
        for wait, deed in (("spin", "look"), ("sleep", "sleep"), ("doze", "doze")):
            setting, state = self.waiting(wait=wait)
            self.assertEqual(moves(setting, state), [(0, "finish"), (0, "fail"), (1, deed)])

    def test_while_it_is_being_made(self):
        for wait, deed, told in (("spin", "look", "waiting"), ("sleep", "sleep", "asleep"), ("doze", "doze", "asleep")):
            setting, state = self.waiting(wait=wait)
            self.assertEqual(step(setting, state, (1, deed)), (1, 1, ("making", told)))

    def test_when_it_is_made(self):
        for wait, deed, told in (("spin", "look", "done"), ("sleep", "sleep", "done"), ("doze", "doze", "asleep")):
            setting, state = self.waiting((0, "finish"), wait=wait)
            self.assertEqual(step(setting, state, (1, deed)), (2, 1, ("done", told)))

    def test_when_its_making_has_failed(self):
        for wait, deed in (("spin", "look"), ("sleep", "sleep")):
            for failure, flag, behind in (("again", 0, (1, 0, ("refused", "making"))),
                                          ("kept", 3, (3, 0, ("refused", "refused"))),
                                          ("left", 1, (1, 0, ("refused", {"spin": "waiting", "sleep": "asleep"}[wait])))):
                setting, state = self.waiting((0, "fail"), wait=wait, failure=failure)
                self.assertEqual(state, (flag, 0, ("refused", "waiting")))
                self.assertEqual(step(setting, state, (1, deed)), behind)
        for failure, flag in (("again", 0), ("kept", 3), ("left", 1)):
            setting, state = self.waiting((0, "fail"), wait="doze", failure=failure)
            self.assertEqual(step(setting, state, (1, "doze")), (flag, 0, ("refused", "asleep")))

    def test_asleep_is_nothing_to_do(self):
        for wait in ("sleep", "doze"):
            setting, state = self.waiting((1, wait), wait=wait)
            self.assertEqual(moves(setting, state), [(0, "finish"), (0, "fail")])


class TestWaking(WalkCase):
    def asleep(self, *rest, wait="sleep", **switches):
        """Hand 2 makes, the others are asleep."""
        setting = setting_of(4, wait=wait, **switches)
        run = [(2, "claim"), *[(hand, deed) for hand in (3, 1, 0) for deed in ("claim", wait)]]
        return setting, self.end_of(setting, *run, *rest)

    def test_who_is_woken(self):
        told = {"all": ("woken", "woken", "woken"), "one": ("woken", "asleep", "asleep"),
                "chain": ("woken", "asleep", "asleep"), "none": ("asleep", "asleep", "asleep")}
        for wait in ("sleep", "doze"):
            for wake, (zero, one, three) in told.items():
                setting, state = self.asleep((2, "finish"), wait=wait, wake=wake)
                self.assertEqual(state, (2, 1, (zero, one, "done", three)))
                for failure, flag in (("again", 0), ("kept", 3)):
                    setting, state = self.asleep((2, "fail"), wait=wait, wake=wake, failure=failure)
                    self.assertEqual(state, (flag, 0, (zero, one, "refused", three)))
                setting, state = self.asleep((2, "fail"), wait=wait, wake=wake, failure="left")
                self.assertEqual(state, (1, 0, ("asleep", "asleep", "refused", "asleep")))

    def test_the_least_number_that_is_asleep(self):
        for wake in ("one", "chain"):
            setting = setting_of(4, wake=wake)
            state = self.end_of(setting, (0, "claim"), (1, "claim"), (3, "claim"), (3, "sleep"), (2, "claim"), (2, "sleep"))
            self.assertEqual(step(setting, state, (0, "finish")), (2, 1, ("done", "waiting", "woken", "asleep")))

    def test_nobody_is_asleep(self):
        for wake in ("all", "one", "chain", "none"):
            setting = setting_of(3, wake=wake)
            state = self.end_of(setting, (0, "claim"), (1, "claim"), (0, "finish"))
            self.assertEqual(state, (2, 1, ("done", "waiting", "out")))

    def test_woken_hands_look(self):
        for wake in ("all", "one", "chain"):
            for wait in ("sleep", "doze"):
                setting, state = self.asleep((2, "finish"), wait=wait, wake=wake)
                self.assertEqual(self.deeds(setting, state, 0), ["look"])

    def test_what_woken_hands_find(self):
        setting, state = self.asleep((2, "finish"))
        self.assertEqual(step(setting, state, (1, "look")), (2, 1, ("woken", "done", "done", "woken")))
        setting, state = self.asleep((2, "fail"), failure="kept")
        self.assertEqual(step(setting, state, (1, "look")), (3, 0, ("woken", "refused", "refused", "woken")))
        setting, state = self.asleep((2, "fail"))
        state = step(setting, state, (1, "look"))
        self.assertEqual(state, (1, 0, ("woken", "making", "refused", "woken")))
        self.assertEqual(step(setting, state, (0, "look")), (1, 0, ("waiting", "making", "refused", "woken")))

    def test_a_chain_goes_on_behind_a_look(self):
        for failure, flag, deed, told in (("again", 2, "finish", "done"), ("kept", 3, "fail", "refused")):
            setting, state = self.asleep((2, deed), wake="chain", failure=failure)
            fails = 1 if deed == "finish" else 0
            self.assertEqual(state, (flag, fails, ("woken", "asleep", told, "asleep")))
            state = step(setting, state, (0, "look"))
            self.assertEqual(state, (flag, fails, (told, "woken", told, "asleep")))
            state = step(setting, state, (1, "look"))
            self.assertEqual(state, (flag, fails, (told, told, told, "woken")))
            state = step(setting, state, (3, "look"))
            self.assertEqual(state, (flag, fails, (told, told, told, told)))

    def test_a_chain_waits_while_it_is_being_made_anew(self):
        setting, state = self.asleep((2, "fail"), wake="chain")
        self.assertEqual(state, (0, 0, ("woken", "asleep", "refused", "asleep")))
        self.assertEqual(step(setting, state, (0, "look")), (1, 0, ("making", "asleep", "refused", "asleep")))
        state = step(setting, step(setting, state, (2, "end")), (2, "claim"))
        self.assertEqual(step(setting, state, (0, "look")), (1, 0, ("waiting", "asleep", "making", "asleep")))

    def test_no_chain_with_the_others(self):
        for wake in ("all", "one", "none"):
            setting = setting_of(4, wake=wake)
            state = (2, 1, ("woken", "asleep", "done", "asleep"))
            self.assertEqual(step(setting, state, (0, "look")), (2, 1, ("done", "asleep", "done", "asleep")))

    def test_only_woken_hands_pass_it_on(self):
        for wait, deed in (("spin", "look"), ("sleep", "sleep")):
            setting = setting_of(3, wake="chain", wait=wait)
            state = (2, 1, ("waiting", "asleep", "done"))
            self.assertEqual(step(setting, state, (0, deed)), (2, 1, ("done", "asleep", "done")))
            state = (2, 1, ("out", "asleep", "done"))
            self.assertEqual(step(setting, state, (0, "claim")), (2, 1, ("done", "asleep", "done")))

    def test_a_dozing_hand_sleeps_on(self):
        setting = setting_of(2, wait="doze")
        state = self.end_of(setting, (0, "claim"), (1, "claim"), (0, "finish"), (1, "doze"), (0, "end"))
        self.assertEqual(state, (2, 1, ("out", "asleep")))
        self.assertEqual(moves(setting, state), [(0, "claim")])


class TestOut(WalkCase):
    def test_a_hand_is_out_in_its_first_mode_alone(self):
        met = set()
        for book in waking_books():
            setting = Setting(book)
            for state in come_to(setting):
                for hand in (0, 1):
                    met.add(state[-1][hand])
                    self.assertIs(is_out(setting, state, hand), state[-1][hand] == "out")
        self.assertEqual(met, {"out", "waiting", "asleep", "woken", "making", "done", "refused"})


if __name__ == "__main__":
    unittest.main()
