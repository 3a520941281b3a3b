"""Benches: moves one by one and several at once, what a bench tells, going back, trials, and runs."""

import unittest

from firstmade.benches import Bench, end_of, is_run, play, tried
from firstmade.books import FirstBook, LateBook, NetBook, WakingBook
from firstmade.errors import MadeError, NoHand, NoMove, NoSetting, NothingBack
from firstmade.nets import Net
from firstmade.rules import first_state, moves, step
from firstmade.settings import Setting
from tests.odd_values import Alike, Touchy, odd_values

BARE = Setting(FirstBook.bare())
TWOFOLD = Setting(FirstBook(), 3)
WAKING = Setting(WakingBook(wake="none"))
LATE = Setting(LateBook(look="flag", fences=()), 3)
NETS = Setting(NetBook(Net({"a": ("b",), "b": ("a",)})))

ALONE = [(0, "look"), (0, "make"), *[(0, "write")] * 4, (0, "use")]
TWICE = [(0, "look"), (1, "look"), (0, "make"), (1, "make"), *[(0, "write")] * 4, *[(1, "write")] * 4, (0, "use"),
         (1, "use")]
HALF = [(0, "write"), (0, "write"), (0, "write"), (0, "write"), (0, "flag"), (2, "look"), (2, "use")]
ITSELF = [(1, "b"), (1, "own"), (1, "need"), (1, "own"), (1, "need"), (1, "ask")]
RUNS = [(BARE, ALONE), (BARE, TWICE), (TWOFOLD, [(2, "look"), (2, "lock"), (2, "look")]),
        (WAKING, [(0, "claim"), (1, "claim"), (1, "sleep")]), (LATE, HALF), (NETS, ITSELF),
        (NETS, [(0, "a"), (0, "own"), (1, "b")]), (LATE, [(1, "peek"), (0, "write"), (0, "one")]), (WAKING, [])]
FAULTS = [(BARE, TWICE, ("twice", 1, 1)), (LATE, HALF, ("half", 2, None)), (NETS, ITSELF, ("itself", 1, "b"))]
NO_SETTINGS = odd_values() + [FirstBook(), Setting, ALONE, Bench(BARE)]
NO_RUNS = [value for value in odd_values() if not isinstance(value, (list, tuple))]
NO_RUNS += [{(0, "look"): 1}, {(0, "look")}, "look", iter([(0, "look")]), (move for move in ALONE), range(0), Bench(BARE),
            {}, b"", 0]


class BenchCase(unittest.TestCase):
    def no_move(self, index, call, *args, **more):
        with self.assertRaises(NoMove) as caught:
            call(*args, **more)
        self.assertEqual(repr(caught.exception.index), repr(index))

    def no_setting(self, call, *args, **more):
        with self.assertRaises(NoSetting) as caught:
            call(*args, **more)
        self.assertIsNone(caught.exception.word)

    def add(self, bench, run):
        bench += run

    def told(self, bench):
        """All that a bench tells of itself."""
        hands = [bench[hand] for hand in range(2)]
        return bench.state(), bench.moves(), bench.listed(), list(bench), len(bench), hands, bench.fault

    def states(self, setting, run):
        rows = [first_state(setting)]
        for move in run:
            rows.append(step(setting, rows[-1], move))
        return rows


class TestMoves(BenchCase):
    def test_at_first(self):
        for setting, run in RUNS:
            bench = Bench(setting)
            state = first_state(setting)
            self.assertEqual((bench.state(), bench.moves(), bench.listed(), len(bench), bench.fault),
                             (state, moves(setting, state), [], 0, None))

    def test_one_by_one(self):
        for setting, run in RUNS:
            bench = Bench(setting)
            states = self.states(setting, run)
            for at, move in enumerate(run, 1):
                self.assertEqual(bench(move), states[at])
                self.assertEqual((bench.state(), bench.moves()), (states[at], moves(setting, states[at])))
                self.assertEqual((bench.listed(), list(bench), len(bench)), (run[:at], run[:at], at))

    def test_by_name(self):
        bench = Bench(setting=BARE)
        self.assertEqual(bench(move=(0, "look")), step(BARE, first_state(BARE), (0, "look")))

    def test_what_is_not_possible(self):
        for setting, run in RUNS:
            bench = Bench(setting)
            for at in range(len(run) + 1):
                told = self.told(bench)
                for value in odd_values() + [(3, "look"), (0, "nothing"), (-1, "look"), (False, "look"), (True, "claim"),
                                             [0, "look"], [0, "a"], (0, "look", 0), (0,), "look", (0.0, "look")]:
                    self.no_move(at, bench, value)
                    self.assertEqual(self.told(bench), told)
                if at < len(run):
                    bench(run[at])

    def test_nothing_behind_a_fault(self):
        for setting, run, fault in FAULTS:
            bench = play(setting, run)
            for move in run:
                self.no_move(len(run), bench, move)
            self.assertEqual((bench.state(), bench.fault, bench.moves(), bench.listed()), (fault, fault, [], run))

    def test_no_setting(self):
        for value in NO_SETTINGS:
            self.no_setting(Bench, value)

    def test_errors_are_made_errors(self):
        with self.assertRaises(MadeError):
            Bench(None)
        with self.assertRaises(MadeError):
            Bench(BARE)(None)


class TestSeveralMoves(BenchCase):
    def test_lists_and_tuples(self):
        for setting, run in RUNS:
            for rows in (run, tuple(run)):
                bench = Bench(setting)
                bench += rows
                self.assertEqual((bench.listed(), bench.state()), (run, self.states(setting, run)[-1]))
                self.assertIsInstance(bench.listed(), list)

    def test_on_this_very_object(self):
        bench = first = Bench(BARE)
        bench += ALONE
        self.assertIs(bench, first)
        self.assertEqual(first.listed(), ALONE)
        bench += [(0, "end")]
        bench += ()
        bench += []
        self.assertIs(bench, first)
        self.assertEqual(first.listed(), [*ALONE, (0, "end")])

    def test_all_or_none(self):
        wrongs = odd_values() + [(0, "nothing"), [1, "look"], (True, "look"), (9, "look"), (1, "unlock")]
        for ahead in ([], ALONE[:3]):
            bench = play(BARE, ahead)
            told = self.told(bench)
            rest = ALONE[len(ahead):]
            for at in range(len(rest) + 1):
                for wrong in wrongs:
                    for rows in ([*rest[:at], wrong, *rest[at:]], (*rest[:at], wrong), [*rest[:at], wrong, None, Touchy()]):
                        self.no_move(at, self.add, bench, rows)
                        self.assertEqual(self.told(bench), told)

    def test_the_index_is_that_of_the_run(self):
        bench = play(BARE, ALONE)
        self.no_move(0, self.add, bench, [(0, "write")])
        self.no_move(1, self.add, bench, [(0, "end"), (0, "use")])
        self.no_move(2, self.add, bench, [(1, "look"), (1, "use"), (1, "claim")])

    def test_beyond_a_fault(self):
        for setting, run, fault in FAULTS:
            bench = Bench(setting)
            self.no_move(len(run), self.add, bench, [*run, run[0]])
            self.assertEqual((len(bench), bench.fault), (0, None))
            bench += run
            self.no_move(0, self.add, bench, run[:1])
            bench += []
            self.assertEqual(bench.state(), fault)

    def test_what_is_no_list_or_tuple(self):
        for ahead in ([], ALONE):
            bench = play(BARE, ahead)
            told = self.told(bench)
            for value in NO_RUNS:
                self.no_move(None, self.add, bench, value)
                self.assertEqual(self.told(bench), told)

    def test_what_was_handed_in_can_be_changed(self):
        rows = list(ALONE)
        bench = Bench(BARE)
        bench += rows
        rows.clear()
        self.assertEqual((bench.listed(), len(bench)), (ALONE, 7))


class TestTelling(BenchCase):
    def test_what_was_returned_can_be_changed(self):
        bench = play(BARE, ALONE)
        told = self.told(bench)
        for rows in (bench.moves(), bench.listed(), list(bench)):
            rows.clear()
            rows.append((9, "nothing"))
            self.assertEqual(self.told(bench), told)

    def test_iterated_over_for_the_moves_made(self):
        for setting, run in RUNS:
            bench = play(setting, run)
            self.assertEqual([move for move in bench], run)
            self.assertEqual((list(bench), tuple(bench), bench.listed(), len(bench)), (run, tuple(run), run, len(run)))

    def test_in_tells_what_is_possible_now(self):
        for setting, run in RUNS:
            bench = Bench(setting)
            for move in run:
                for other in [(hand, deed) for hand in range(-1, 5) for deed in ("look", "claim", "a", "write", "make")]:
                    self.assertIs(other in bench, other in moves(setting, bench.state()))
                self.assertIs(move in bench, True)
                bench(move)

    def test_any_value_may_be_asked_for(self):
        for setting, run in RUNS:
            bench = play(setting, run)
            for value in odd_values() + [(False, "look"), (True, "claim"), [0, "look"], (0, "look", 1), Alike(), Touchy()]:
                self.assertIs(value in bench, False)

    def test_nothing_is_possible_behind_a_fault(self):
        for setting, run, fault in FAULTS:
            bench = play(setting, run)
            for move in run:
                self.assertIs(move in bench, False)

    def test_fault(self):
        for setting, run, fault in FAULTS:
            bench = Bench(setting)
            for move in run:
                self.assertIsNone(bench.fault)
                bench(move)
            self.assertEqual(bench.fault, fault)
            with self.assertRaises(AttributeError):
                bench.fault = None
            bench.back()
            self.assertIsNone(bench.fault)


class TestHands(BenchCase):
    def test_of_each_kind(self):
        self.assertEqual([play(BARE, TWICE[:6])[hand] for hand in (0, 1)], [("making", 2, 0), ("making", 0, 1)])
        bench = play(WAKING, [(0, "claim"), (1, "claim"), (1, "sleep")])
        self.assertEqual((bench[0], bench[1]), ("making", "asleep"))
        bench = play(NETS, [(0, "a"), (0, "own"), (1, "b")])
        self.assertEqual((bench[0], bench[1]), ((("a", 0),), (("b", -1),)))

    def test_the_writer_and_the_readers_of_a_late_book(self):
        bench = Bench(LATE)
        self.assertEqual([bench[hand] for hand in range(3)], [(0, ()), ("out", None), ("out", None)])
        bench += [(0, "write"), (0, "write"), (0, "one"), (2, "peek")]
        self.assertEqual([bench[hand] for hand in range(3)],
                         [(2, ("two",)), ("out", None), ("peeked", (True, False, False, False))])

    def test_none_behind_a_fault(self):
        for setting, run, fault in FAULTS:
            bench = play(setting, run)
            for hand in range(setting.hands):
                self.assertIsNone(bench[hand])

    def test_what_is_no_hand(self):
        for setting, run in [*RUNS, *[(setting, run) for setting, run, fault in FAULTS]]:
            for bench in (Bench(setting), play(setting, run)):
                values = [value for value in odd_values() if not (isinstance(value, int) and value in (0, 1))]
                for value in [*values, True, False, setting.hands, setting.hands + 1, -1, -2, 0.0, "0", slice(0, 1), (0,)]:
                    with self.assertRaises(NoHand) as caught:
                        bench[value]
                    self.assertIs(caught.exception.hand, value)

    def test_no_hand_is_a_key_error(self):
        with self.assertRaises(KeyError):
            Bench(BARE)[2]


class TestBack(BenchCase):
    def test_one_and_many(self):
        for setting, run in RUNS:
            states = self.states(setting, run)
            for many in range(1, len(run) + 1):
                bench = play(setting, run)
                self.assertIsNone(bench.back(many))
                self.assertEqual((bench.listed(), bench.state(), len(bench)),
                                 (run[:-many], states[len(run) - many], len(run) - many))
                self.assertEqual(bench.moves(), moves(setting, bench.state()))
                bench += run[-many:]
                self.assertEqual((bench.listed(), bench.state()), (run, states[-1]))
            if run:
                bench = play(setting, run)
                self.assertIsNone(bench.back())
                self.assertEqual(bench.listed(), run[:-1])
                bench = play(setting, run)
                bench.back(many=1)
                self.assertEqual(bench, play(setting, run[:-1]))

    def test_wrong_numbers(self):
        for setting, run in RUNS:
            bench = play(setting, run)
            told = self.told(bench)
            values = [value for value in odd_values() if not (isinstance(value, int) and value == 1)]
            for value in [*values, True, False, 0, -1, len(run) + 1, len(run) + 10 ** 40, 1.0, "1", None, [1], (1,)]:
                with self.assertRaises(NothingBack) as caught:
                    bench.back(value)
                self.assertIs(caught.exception.many, value)
                self.assertEqual(self.told(bench), told)

    def test_nothing_is_made_yet(self):
        with self.assertRaises(NothingBack) as caught:
            Bench(BARE).back()
        self.assertEqual(caught.exception.many, 1)


class TestTwin(BenchCase):
    def test_goes_on_by_itself(self):
        for setting, run in RUNS:
            bench = play(setting, run)
            twin = bench.twin()
            self.assertIsNot(twin, bench)
            self.assertEqual(twin, bench)
            self.assertEqual(self.told(twin), self.told(bench))
            told = self.told(bench)
            if run:
                twin.back()
                self.assertEqual(self.told(bench), told)
                self.assertNotEqual(twin, bench)
                twin(run[-1])
                self.assertEqual(twin, bench)
                bench.back()
                self.assertEqual(self.told(twin), told)

    def test_moves_of_one_are_not_made_by_the_other(self):
        bench = play(BARE, ALONE[:2])
        twin = bench.twin()
        twin += ALONE[2:]
        bench((1, "look"))
        self.assertEqual((twin.listed(), bench.listed()), (ALONE, [*ALONE[:2], (1, "look")]))

    def test_equal(self):
        self.assertTrue(play(BARE, ALONE) == play(Setting(FirstBook.bare()), tuple(ALONE)))
        self.assertFalse(play(BARE, ALONE) != play(Setting(FirstBook.bare()), tuple(ALONE)))
        self.assertTrue(Bench(LATE) == Bench(Setting(LateBook(look="flag", fences=()), 3)))

    def test_the_setting_and_the_moves_count(self):
        self.assertFalse(Bench(BARE) == Bench(Setting(FirstBook.bare(), makes=3)))
        self.assertFalse(Bench(BARE) == Bench(Setting(FirstBook())))
        self.assertFalse(play(BARE, ALONE) == play(BARE, ALONE[:-1]))
        one = play(BARE, [(0, "look"), (1, "look")])
        other = play(BARE, [(1, "look"), (0, "look")])
        self.assertEqual(one.state(), other.state())
        self.assertFalse(one == other)
        self.assertTrue(one != other)

    def test_other_values_are_not_equal(self):
        bench = play(BARE, ALONE)
        for value in odd_values() + [ALONE, BARE, bench.state(), (BARE, ALONE)]:
            if not isinstance(value, (Alike, Touchy)):
                self.assertIs(bench == value, False)
                self.assertIs(bench != value, True)


class Stop(Exception):
    pass


class TestTrial(BenchCase):
    def test_as_it_was(self):
        for setting, run in RUNS:
            for at in range(len(run) + 1):
                bench = play(setting, run[:at])
                told = self.told(bench)
                with bench.trial() as held:
                    self.assertIs(held, bench)
                    for move in run[at:]:
                        held(move)
                    self.assertEqual((bench.listed(), len(bench)), (run, len(run)))
                self.assertEqual(self.told(bench), told)
                bench += run[at:]
                self.assertEqual(bench, play(setting, run))

    def test_several_at_once(self):
        bench = play(BARE, ALONE[:1])
        with bench.trial() as held:
            held += ALONE[1:]
            self.assertEqual(bench.listed(), ALONE)
        self.assertEqual(bench.listed(), ALONE[:1])

    def test_what_was_taken_back_is_there_again(self):
        bench = play(BARE, ALONE)
        with bench.trial() as held:
            held.back(5)
            held((1, "look"))
        self.assertEqual(bench, play(BARE, ALONE))

    def test_keep(self):
        for setting, run in RUNS:
            bench = Bench(setting)
            trial = bench.trial()
            with trial as held:
                held += run
                self.assertIsNone(trial.keep())
            self.assertEqual(bench, play(setting, run))

    def test_keep_keeps_what_comes_later_in_the_block(self):
        bench = Bench(BARE)
        trial = bench.trial()
        with trial as held:
            held(ALONE[0])
            trial.keep()
            held(ALONE[1])
        self.assertEqual(bench.listed(), ALONE[:2])

    def test_keep_outside_of_the_block_keeps_nothing(self):
        bench = Bench(BARE)
        trial = bench.trial()
        trial.keep()
        with trial as held:
            held(ALONE[0])
        self.assertEqual(bench.listed(), [])
        trial.keep()
        self.assertEqual(bench.listed(), [])

    def test_an_exception_passes_on(self):
        for keep in (False, True):
            bench = play(BARE, ALONE[:2])
            stop = Stop("here")
            with self.assertRaises(Stop) as caught:
                trial = bench.trial()
                with trial as held:
                    held += ALONE[2:]
                    if keep:
                        trial.keep()
                    raise stop
            self.assertIs(caught.exception, stop)
            self.assertEqual(bench, play(BARE, ALONE[:2]))

    def test_a_refused_move_passes_on(self):
        bench = Bench(BARE)
        with self.assertRaises(NoMove) as caught:
            with bench.trial() as held:
                held(ALONE[0])
                held((0, "unlock"))
        self.assertEqual(caught.exception.index, 1)
        self.assertEqual(bench, Bench(BARE))

    def test_as_it_was_ahead_of_the_block(self):
        bench = Bench(BARE)
        trial = bench.trial()
        bench(ALONE[0])
        with trial as held:
            held(ALONE[1])
        self.assertEqual(bench.listed(), ALONE[:1])

    def test_one_within_another(self):
        for outer_keeps in (False, True):
            for inner_keeps in (False, True):
                bench = Bench(BARE)
                outer = bench.trial()
                with outer:
                    bench(ALONE[0])
                    inner = bench.trial()
                    with inner:
                        bench(ALONE[1])
                        if inner_keeps:
                            inner.keep()
                    if outer_keeps:
                        outer.keep()
                    self.assertEqual(bench.listed(), ALONE[:1 + inner_keeps])
                self.assertEqual(bench.listed(), ALONE[:1 + inner_keeps] if outer_keeps else [])

    def test_a_block_can_be_left(self):
        def leave(bench):
            with bench.trial() as held:
                held += ALONE
                return held.state()

        bench = Bench(BARE)
        self.assertEqual(leave(bench), self.states(BARE, ALONE)[-1])
        self.assertEqual(len(bench), 0)


class TestTried(BenchCase):
    def test_states_behind_each(self):
        for setting, run in RUNS:
            states = self.states(setting, run)
            for at in range(len(run) + 1):
                for rows in (run[at:], tuple(run[at:])):
                    bench = play(setting, run[:at])
                    self.assertEqual(tried(bench, rows), states[at + 1:])
                    self.assertIsInstance(tried(bench, rows), list)
                    self.assertEqual(bench, play(setting, run[:at]))
                    self.assertEqual(bench.state(), states[at])
                    self.assertEqual(tried(bench, rows, keep=False), states[at + 1:])
                    self.assertEqual(bench, play(setting, run[:at]))
                    self.assertEqual(tried(bench, rows, keep=True), states[at + 1:])
                    self.assertEqual(bench, play(setting, run))
                    self.assertEqual(bench.state(), states[-1])

    def test_names_of_arguments(self):
        bench = Bench(BARE)
        self.assertEqual(len(tried(keep=True, run=ALONE, bench=bench)), 7)
        self.assertEqual(len(bench), 7)
        with self.assertRaises(TypeError):
            tried(bench, [(0, "end")], True)

    def test_what_is_refused(self):
        for keep in (False, True):
            bench = play(BARE, ALONE[:2])
            told = self.told(bench)
            for at in range(2, 8):
                for wrong in odd_values() + [(0, "unlock")]:
                    self.no_move(at - 2, tried, bench, [*ALONE[2:at], wrong, *ALONE], keep=keep)
                    self.assertEqual(self.told(bench), told)
            for value in NO_RUNS:
                self.no_move(None, tried, bench, value, keep=keep)
                self.assertEqual(self.told(bench), told)

    def test_what_is_told_can_be_changed(self):
        bench = Bench(BARE)
        for keep in (False, True):
            tried(bench, ALONE, keep=keep).clear()
        self.assertEqual((bench.state(), bench.listed()), (end_of(BARE, ALONE), ALONE))
        bench.back(7)
        self.assertEqual(bench.state(), first_state(BARE))


class TestRuns(BenchCase):
    def test_play_and_end_of(self):
        for setting, run in RUNS:
            for rows in (run, tuple(run)):
                bench = play(setting, rows)
                self.assertIsInstance(bench, Bench)
                self.assertEqual((bench.listed(), bench.state()), (run, self.states(setting, run)[-1]))
                self.assertEqual(end_of(setting, rows), bench.state())
                self.assertIs(is_run(setting, rows), True)

    def test_names_of_arguments(self):
        self.assertEqual(play(run=ALONE, setting=BARE), play(BARE, ALONE))
        self.assertEqual(end_of(run=ALONE, setting=BARE), end_of(BARE, ALONE))
        self.assertIs(is_run(run=ALONE, setting=BARE), True)

    def test_no_setting_is_told_ahead_of_all_else(self):
        for value in NO_SETTINGS:
            for run in (ALONE, [], None, [None], Touchy()):
                for call in (play, end_of, is_run):
                    self.no_setting(call, value, run)

    def test_what_is_no_run(self):
        for setting, run in RUNS:
            for at in range(len(run) + 1):
                for wrong in odd_values() + [(0, "nothing"), (False, "look"), (True, "a"), [0, "look"], (7, "look")]:
                    rows = [*run[:at], wrong, *run[at:]]
                    self.no_move(at, play, setting, rows)
                    self.no_move(at, end_of, setting, tuple(rows))
                    self.assertIs(is_run(setting, rows), False)
                    self.assertIs(is_run(setting, tuple(rows)), False)
            for value in NO_RUNS:
                self.no_move(None, play, setting, value)
                self.no_move(None, end_of, setting, value)
                self.assertIs(is_run(setting, value), False)

    def test_lists_of_moves_that_are_lists(self):
        self.assertIs(is_run(BARE, [list(move) for move in ALONE]), False)
        self.no_move(0, play, BARE, [list(move) for move in ALONE])

    def test_beyond_a_fault(self):
        for setting, run, fault in FAULTS:
            self.assertEqual(end_of(setting, run), fault)
            self.no_move(len(run), end_of, setting, [*run, run[0]])
            self.assertIs(is_run(setting, [*run, run[0]]), False)

    def test_the_run_goes_by_the_setting(self):
        self.assertIs(is_run(Setting(FirstBook()), ALONE), False)
        self.assertIs(is_run(Setting(FirstBook.bare(), makes=1), TWICE), False)
        self.assertIs(is_run(Setting(FirstBook.bare(), 1), TWICE), False)
        self.assertIs(is_run(Setting(FirstBook.bare(), 4, makes=6, fails=0), TWICE), True)

    def test_the_example_of_the_document(self):
        setting = Setting(WakingBook(wake="none"), 2)
        bench = play(setting, [(0, "claim"), (1, "claim"), (1, "sleep")])
        self.assertEqual((bench.state(), bench.moves()),
                         ((1, 1, ("making", "asleep")), [(0, "finish"), (0, "fail")]))


if __name__ == "__main__":
    unittest.main()
