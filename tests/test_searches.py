"""Searches: all states, shortest runs to faults, ways out and stuck hands."""

import unittest

from firstmade.books import FirstBook, LateBook, NetBook, WakingBook
from firstmade.errors import MadeError, NoNumber, NoSetting, TooMany
from firstmade.rules import first_state, is_fault, is_out, moves, step
from firstmade.searches import all_states, shortest, stuck_hands, way_out
from firstmade.settings import Setting
from tests.exploring import come_to, first_books, late_books, net_books, waking_books
from tests.measuring import behind_run, distances, frees, least_run
from tests.odd_values import Touchy, odd_values
from tests.samples import NO_NUMBERS, NO_SETTINGS, RING, SELF_NET, SETTINGS, WIDE_NET

WORDS = ("any", "half", "twice", "itself")


def by_breadth(setting):
    """All states, level by level."""
    rows = [first_state(setting)]
    seen = list(rows)
    while rows:
        level = []
        for state in rows:
            for move in moves(setting, state):
                other = step(setting, state, move)
                if not isinstance(other[0], str) and other not in seen:
                    seen.append(other)
                    level.append(other)
        rows = level
    return seen


class SearchCase(unittest.TestCase):
    def too_many(self, most, call, *args, **more):
        with self.assertRaises(TooMany) as caught:
            call(*args, most=most, **more)
        self.assertEqual(caught.exception.most, most)


class TestAllStates(SearchCase):
    def test_as_they_are_met(self):
        for setting in SETTINGS:
            rows = all_states(setting)
            self.assertIs(type(rows), list)
            self.assertEqual(repr(rows), repr(by_breadth(setting)))

    def test_all_and_none_twice_and_no_faults(self):
        for setting in SETTINGS:
            rows = all_states(setting)
            self.assertEqual(set(rows), set(come_to(setting)))
            self.assertEqual(len(rows), len(set(rows)))
            self.assertFalse(any(is_fault(state) for state in rows))

    def test_a_small_setting(self):
        self.assertEqual(all_states(Setting(WakingBook(), 1)), [
            (0, 1, ("out",)), (1, 1, ("making",)), (2, 1, ("done",)), (0, 0, ("refused",)), (2, 1, ("out",)),
            (0, 0, ("out",)), (1, 0, ("making",)), (2, 0, ("done",)), (2, 0, ("out",))])
        self.assertEqual(all_states(Setting(SELF_NET, 1)), [
            ((), None, ((),)), ((), None, ((("a", -1),),)), ((), None, ((("a", 0),),)),
            ((), None, ((("a", 0), ("a", -1)),))])

    def test_just_as_many_as_most_and_one_more(self):
        for setting in SETTINGS:
            many = len(by_breadth(setting))
            self.assertEqual(all_states(setting, most=many), all_states(setting))
            self.assertEqual(all_states(setting, most=10 ** 40), all_states(setting))
            for most in (many - 1, (many + 1) // 2, 1):
                self.too_many(most, all_states, setting)

    def test_two_thousand_unless_told(self):
        large, wide = Setting(WakingBook(wait="sleep", wake="one"), 4, fails=4), Setting(NetBook(WIDE_NET), 4)
        self.assertGreater(len(all_states(large, most=10000)), 2000)
        state = step(wide, first_state(wide), (3, "a"))
        for call in (lambda: all_states(large), lambda: shortest(large), lambda: way_out(wide, state, 3),
                     lambda: stuck_hands(wide, state)):
            with self.assertRaises(TooMany) as caught:
                call()
            self.assertEqual(caught.exception.most, 2000)
        self.assertEqual(way_out(wide, state, 2), [])

    def test_of_every_book(self):
        for book in first_books()[::7] + waking_books() + late_books() + net_books("ab"):
            setting = Setting(book)
            self.assertEqual(set(all_states(setting)), set(come_to(setting)))


class TestShortest(SearchCase):
    def test_the_first_of_the_shortest_runs(self):
        found = 0
        for setting in SETTINGS:
            behind = come_to(setting)
            for word in WORDS:
                far = distances(behind, lambda state: is_fault(state) and word in ("any", state[0]))
                run = shortest(setting, kind=word)
                self.assertEqual(run, least_run(setting, first_state(setting), far))
                if run is not None:
                    found += 1
                    self.assertIs(type(run), list)
                    last = behind_run(setting, first_state(setting), run)
                    self.assertTrue(is_fault(last) and word in ("any", last[0]))
            self.assertEqual(shortest(setting), shortest(setting, kind="any"))
        self.assertGreater(found, 15)

    def test_of_every_book(self):
        for book in first_books()[::5] + late_books() + net_books("ab"):
            setting = Setting(book)
            behind = come_to(setting)
            for word in WORDS:
                far = distances(behind, lambda state: is_fault(state) and word in ("any", state[0]))
                self.assertEqual(shortest(setting, kind=word), least_run(setting, first_state(setting), far))

    def test_some_runs(self):
        self.assertEqual(shortest(Setting(SELF_NET)), [(0, "a"), (0, "own"), (0, "need"), (0, "ask")])
        self.assertEqual(shortest(Setting(LateBook(fences=()), 2)), [
            (0, "write"), (0, "write"), (0, "write"), (0, "cell"), (1, "look"), (1, "use")])
        self.assertIsNone(shortest(Setting(FirstBook())))
        self.assertIsNone(shortest(Setting(WakingBook(failure="left"), 3)))

    def test_other_words_are_passed_by(self):
        setting = Setting(FirstBook(guard="none", writing="cell parts flag"))
        half, twice = shortest(setting, kind="half"), shortest(setting, kind="twice")
        self.assertEqual(half, [(0, "look"), (0, "make"), (0, "write"), (1, "look"), (1, "use")])
        self.assertEqual(shortest(setting), half)
        self.assertEqual(len(twice), 14)
        self.assertEqual(behind_run(setting, first_state(setting), twice)[0], "twice")
        self.assertIsNone(shortest(setting, kind="itself"))
        self.assertIsNone(shortest(setting, kind="stuck"))

    def test_faults_are_not_counted(self):
        setting = Setting(SELF_NET, 1)
        self.assertEqual(shortest(setting, most=4), [(0, "a"), (0, "own"), (0, "need"), (0, "ask")])
        self.too_many(3, shortest, setting)
        # Those that are passed by are no states either.
        self.assertIsNone(shortest(setting, most=4, kind="half"))
        self.too_many(3, shortest, setting, kind="half")

    def test_most_if_there_is_no_fault(self):
        for setting in SETTINGS:
            if shortest(setting) is None:
                many = len(all_states(setting))
                self.assertIsNone(shortest(setting, most=many))
                self.too_many(many - 1, shortest, setting)

    def test_most_if_there_is_one(self):
        """The states that are met ahead of the fault are those that count."""
        for setting in SETTINGS:
            run = shortest(setting)
            if run is None:
                continue
            rows = [first_state(setting)]
            last = behind_run(setting, rows[0], run[:-1])
            for state in rows:
                if state == last:
                    break
                for move in moves(setting, state):
                    other = step(setting, state, move)
                    if not is_fault(other) and other not in rows:
                        rows.append(other)
            ahead = moves(setting, last)[:moves(setting, last).index(run[-1])]
            rows += [step(setting, last, move) for move in ahead if step(setting, last, move) not in rows]
            many = len(rows)
            self.assertEqual(shortest(setting, most=many), run)
            self.too_many(many - 1, shortest, setting)


class TestWayOut(SearchCase):
    def test_of_every_state_and_hand(self):
        for setting in SETTINGS:
            behind = come_to(setting)
            for hand in range(setting.hands):
                is_end = frees(setting, hand)
                far = distances(behind, is_end)
                for state in list(behind)[::3]:
                    run = way_out(setting, state, hand)
                    if state not in far:
                        self.assertIsNone(run)
                        continue
                    self.assertIs(type(run), list)
                    self.assertEqual(len(run), far[state])
                    self.assertTrue(is_end(behind_run(setting, state, run)))

    def test_out(self):
        for setting in SETTINGS:
            for state in come_to(setting):
                for hand in range(setting.hands):
                    self.assertEqual(way_out(setting, state, hand) == [], is_out(setting, state, hand))

    def test_the_writer_of_a_late_book(self):
        setting = Setting(LateBook(), 2)
        run = way_out(setting, first_state(setting), 0)
        self.assertEqual(len(run), 9)
        state = behind_run(setting, first_state(setting), run)
        self.assertEqual(state[:2], (5, ()))
        self.assertEqual(way_out(setting, state, 0), [])

    def test_a_run_that_ends_with_a_fault_of_the_hand(self):
        setting = Setting(SELF_NET, 2)
        state = ((), None, ((("a", 0), ("a", -1)), (("a", -1),)))
        self.assertEqual(way_out(setting, state, 0), [(0, "ask")])
        self.assertIsNone(way_out(setting, state, 1))
        self.assertEqual(stuck_hands(setting, state), [1])

    def test_a_fault_of_another_hand_is_passed_by(self):
        setting = Setting(LateBook(look="cell", fences=()), 3)
        state = (3, ("one", "two"), (False, False, True, False), (("have", None), ("have", None)))
        self.assertEqual(way_out(setting, state, 2), [(2, "use")])
        self.assertEqual(way_out(setting, state, 1), [(1, "use")])
        self.assertEqual(way_out(setting, state, 0), [(0, "write"), (0, "one"), (0, "two"), (0, "flag")])

    def test_by_another_hand(self):
        setting = Setting(WakingBook(), 2)
        state = (1, 1, ("making", "asleep"))
        self.assertEqual(way_out(setting, state, 1), [(0, "finish"), (1, "look"), (1, "end")])

    def test_the_state_that_ends_the_search_is_not_counted(self):
        setting = Setting(WakingBook(), 1)
        state = (1, 1, ("making",))
        self.assertEqual(way_out(setting, state, 0, most=3), [(0, "finish"), (0, "end")])
        self.too_many(2, way_out, setting, state, 0)
        self.too_many(1, way_out, setting, state, 0)
        self.assertEqual(way_out(setting, (2, 1, ("done",)), 0, most=1), [(0, "end")])
        self.assertEqual(way_out(setting, (2, 1, ("out",)), 0, most=1), [])

    def test_most_without_a_way_out(self):
        setting = Setting(WakingBook(failure="left"), 1)
        state = (1, 0, ("asleep",))
        self.assertIsNone(way_out(setting, state, 0, most=1))
        setting = Setting(WakingBook(failure="left", wait="spin"), 2)
        state = (1, 0, ("refused", "waiting"))
        # Beside it those with the hand 0 out, and waiting.
        self.assertIsNone(way_out(setting, state, 1, most=3))
        self.too_many(2, way_out, setting, state, 1)


class TestStuckHands(SearchCase):
    def test_of_every_state(self):
        met = set()
        for setting in SETTINGS:
            behind = come_to(setting)
            far = [distances(behind, frees(setting, hand)) for hand in range(setting.hands)]
            for state in list(behind)[::3]:
                rows = stuck_hands(setting, state)
                self.assertIs(type(rows), list)
                self.assertEqual(rows, [hand for hand in range(setting.hands) if state not in far[hand]])
                met.add(tuple(rows))
        self.assertTrue({(), (0,), (1,)} < met)

    def test_some_states(self):
        setting = Setting(WakingBook(wake="none"), 2)
        self.assertEqual(stuck_hands(setting, (1, 1, ("making", "asleep"))), [1])
        self.assertEqual(stuck_hands(setting, (1, 1, ("making", "waiting"))), [])
        setting = Setting(WakingBook(failure="left"), 3)
        self.assertEqual(stuck_hands(setting, (1, 0, ("asleep", "waiting", "refused"))), [0, 1])
        setting = Setting(RING, 2)
        self.assertEqual(stuck_hands(setting, ((), None, ((("a", 0), ("b", -1)), (("b", 0), ("a", -1))))), [0, 1])

    def test_a_hand_of_a_first_book_without_makings(self):
        setting = Setting(FirstBook(look="none", guard="none", again="never"), 2, makes=1)
        state = behind_run(setting, first_state(setting), [(0, "make"), *[(0, "write")] * 4, (0, "end")])
        self.assertEqual(stuck_hands(setting, state), [])

    def test_of_a_fault(self):
        for setting in SETTINGS:
            for fault in (("half", 0, None), ("half", 1, 0), ("twice", 0, 1), ("itself", 0, "a")):
                self.assertEqual(stuck_hands(setting, fault), [])
                self.assertEqual(stuck_hands(setting, fault, most=1), [])

    def test_each_hand_is_searched_apart(self):
        setting = Setting(WakingBook(failure="left", wait="spin"), 2)
        state = (1, 0, ("refused", "waiting"))
        self.assertEqual(stuck_hands(setting, state, most=3), [1])
        self.too_many(2, stuck_hands, setting, state)
        # More states than most are met by all searches together, but by none alone.
        setting = Setting(WakingBook(), 2)
        self.assertEqual(stuck_hands(setting, (2, 0, ("done", "done")), most=2), [])
        self.too_many(1, stuck_hands, setting, (2, 0, ("done", "done")))


class TestAnyValue(SearchCase):
    def calls(self, setting, most):
        """Each function with odd states and hands, as those are not looked at."""
        for state in [first_state(SETTINGS[0]), ("half", 0, None), *odd_values()]:
            yield lambda: way_out(setting, state, 0, most=most)
            yield lambda: way_out(setting, state, state, most=most)
            yield lambda: stuck_hands(setting, state, most=most)
        yield lambda: all_states(setting, most=most)
        yield lambda: shortest(setting, most=most)
        yield lambda: shortest(setting, most=most, kind="half")

    def test_no_setting_ahead_of_all_else(self):
        for value in NO_SETTINGS:
            for most in (2000, 1, 0, True, None, "2000", Touchy()):
                for call in self.calls(value, most):
                    with self.assertRaises(NoSetting) as caught:
                        call()
                    self.assertIsNone(caught.exception.word)

    def test_no_number(self):
        for most in NO_NUMBERS:
            for setting in SETTINGS[::6]:
                for call in self.calls(setting, most):
                    with self.assertRaises(NoNumber) as caught:
                        call()
                    self.assertIs(caught.exception.value, most)

    def test_errors_are_made_errors_and_too_many_is_none(self):
        for call in (lambda: all_states(None), lambda: all_states(SETTINGS[0], most=0)):
            with self.assertRaises(MadeError):
                call()
        with self.assertRaises(OverflowError):
            all_states(SETTINGS[0], most=1)

    def test_only_by_name(self):
        setting = SETTINGS[0]
        state = first_state(setting)
        for call in (lambda: all_states(setting, 5), lambda: shortest(setting, 5),
                     lambda: way_out(setting, state, 0, 5), lambda: stuck_hands(setting, state, 5)):
            with self.assertRaises(TypeError):
                call()

    def test_names_of_arguments(self):
        setting = Setting(RING)
        state = first_state(setting)
        self.assertEqual(all_states(setting=setting), all_states(setting))
        self.assertEqual(shortest(kind="itself", most=500, setting=setting), shortest(setting))
        self.assertEqual(way_out(hand=1, state=state, setting=setting, most=1), [])
        self.assertEqual(stuck_hands(state=state, setting=setting, most=1), [])

    def test_what_was_returned_can_be_changed(self):
        setting = Setting(RING)
        state = ((), None, ((("a", 0), ("b", -1)), (("b", 0), ("a", -1))))
        for call in (lambda: all_states(setting), lambda: shortest(setting), lambda: stuck_hands(setting, state),
                     lambda: way_out(setting, ((), None, ((("a", -1),), ())), 0)):
            rows = call()
            kept = list(rows)
            self.assertTrue(kept)
            rows.clear()
            self.assertEqual(call(), kept)
            self.assertIsNot(call(), call())


if __name__ == "__main__":
    unittest.main()
