"""Tables: what they take, their order and signs, their gaps, and whether states are closed."""

import unittest

from firstmade.books import FirstBook, LateBook, NetBook, WakingBook
from firstmade.errors import MadeError, NoSetting, NoTable
from firstmade.nets import Net
from firstmade.rules import first_state, is_fault, moves, step
from firstmade.searches import all_states, shortest
from firstmade.settings import Setting
from firstmade.tables import Table, gap, is_closed
from tests.odd_values import Alike, Touchy, odd_values
from tests.samples import NO_SETTINGS, RIGHT_NET, RING, SETTINGS


def within(many):
    """So many tuples within one another."""
    value = ()
    for _ in range(many - 1):
        value = (value,)
    return value


EIGHT, NINE = within(8), within(9)
# What may stand in a list of states, and what may not.
STATES = [(), (None,), (True, False), (1, -2, 10 ** 59), ("", "half", "a b"), ((), ((1,), "x")), ("half", 0, None),
          EIGHT, (0, EIGHT[0], ""), first_state(SETTINGS[0])]
NO_STATES = [value for value in odd_values() if not isinstance(value, tuple)]
NO_STATES += [(Alike(),), (Touchy(), Touchy()), ("a", Alike()), NINE, (0, NINE), (EIGHT,), (1.0,), (0, (1.5,)), (b"x",),
              ([],), ((0, []),), ({},), ((({},),),), (set(),), (frozenset(),), (object(),), (len,), (range(2),),
              (Table([]),), [0, None], "state", {(): 1}, Table([()])]
CLOSED = [setting for setting in SETTINGS if shortest(setting) is None]
OPEN = [setting for setting in SETTINGS if shortest(setting) is not None]


class TableCase(unittest.TestCase):
    def no_table(self, states, call=Table):
        with self.assertRaises(NoTable) as caught:
            call(states)
        self.assertIs(caught.exception.states, states)


class TestTable(TableCase):
    def test_what_is_taken(self):
        for states in ([], (), STATES, tuple(STATES), [EIGHT], [()]):
            table = Table(states)
            self.assertEqual(table.listed(), list(states))
            self.assertEqual(len(table), len(states))
        for state in STATES:
            self.assertEqual(Table([state]).listed(), [state])

    def test_eight_tuples_within_one_another_and_nine(self):
        self.assertEqual(EIGHT, ((((((((),),),),),),),))
        self.assertEqual(Table([EIGHT, (EIGHT[0], "x")]).listed(), [EIGHT, (EIGHT[0], "x")])
        for states in ([NINE], [(), NINE], [(1, EIGHT)], ((EIGHT, 1),), [within(10)], [within(300)]):
            self.no_table(states)

    def test_what_is_not_taken(self):
        for value in NO_STATES:
            self.no_table([value])
            self.no_table((value,))
            self.no_table([(), value, (1,)])
        for states in [value for value in odd_values() if not isinstance(value, (list, tuple))]:
            self.no_table(states)
        for states in ((1, 2), ("look",), (None,), [[]], [[()]], first_state(SETTINGS[0]), Table([]), Table(STATES),
                       "", {}, {(): True}, set(), frozenset([(1,)]), iter([()]), (state for state in STATES), range(0)):
            self.no_table(states)

    def test_the_order_in_which_they_come_first(self):
        table = Table([(2,), (1,), (2,), ("b",), (1,), (), (0, (3,)), (0, (3,))])
        self.assertEqual(table.listed(), [(2,), (1,), ("b",), (), (0, (3,))])
        self.assertEqual(len(table), 5)

    def test_true_and_one_are_alike(self):
        table = Table([(1, "a"), (True, "a"), (False,), (0,), ((True,), 0), ((1,), False)])
        self.assertEqual(repr(table.listed()), repr([(1, "a"), (False,), ((True,), 0)]))
        for state in ((True, "a"), (1, "a"), (0,), (False,), ((1,), 0), ((True,), False)):
            self.assertIs(state in table, True)
        self.assertEqual(Table([(1,)]), Table([(True,)]))
        self.assertTrue(Table([(0,)]) <= Table([(False,), (2,)]))
        self.assertEqual(repr((Table([(0,)]) | Table([(False,), (True,)])).listed()), repr([(0,), (True,)]))
        self.assertEqual(repr((Table([(0,), (True,)]) & Table([(1,), (False,)])).listed()), repr([(0,), (True,)]))

    def test_iterated_over(self):
        table = Table(STATES)
        self.assertEqual([state for state in table], STATES)
        self.assertEqual(list(table), table.listed())
        self.assertEqual(list(Table([])), [])

    def test_copies(self):
        rows = [(1,), (2,)]
        table = Table(rows)
        rows.append((3,))
        table.listed().append((4,))
        self.assertEqual(table.listed(), [(1,), (2,)])
        self.assertIsNot(table.listed(), table.listed())

    def test_in_for_any_value(self):
        table = Table(STATES)
        for state in STATES:
            self.assertIs(state in table, True)
            self.assertIs(state in Table([]), False)
            self.assertIs(list(state) in table, False)
        for value in NO_STATES + [(2,), ("half", 1, None), (0,), ("",), within(7), (1.0, -2.0, 10 ** 59), (0.0, 1)]:
            self.assertIs(value in table, False)
        # A float is no number, although it is equal to one.
        self.assertIs((1.0,) in Table([(1,)]), False)
        self.assertIs((1,) in Table([(1,)]), True)

    def test_equal(self):
        table = Table([(1,), (2,), (3,)])
        for rows in ([(1,), (2,), (3,)], [(3,), (1,), (2,)], ((2,), (2,), (1,), (3,), (True,))):
            self.assertTrue(table == Table(rows))
            self.assertFalse(table != Table(rows))
        for other in (Table([(1,), (2,)]), Table([(1,), (2,), (3,), (4,)]), Table([(1,), (2,), (4,)]), Table([]),
                      [(1,), (2,), (3,)], ((1,), (2,), (3,)), {(1,): True, (2,): True, (3,): True}, None):
            self.assertFalse(table == other)
            self.assertTrue(table != other)
        self.assertEqual(Table([]), Table(()))

    def test_under(self):
        one, two, three = Table([(2,), (1,)]), Table([(1,), (3,), (2,)]), Table([(1,), (4,)])
        self.assertIs(one <= two, True)
        self.assertIs(two <= one, False)
        self.assertIs(one <= one, True)
        self.assertIs(one <= Table([(1,), (2,)]), True)
        self.assertIs(three <= two, False)
        self.assertIs(Table([]) <= one, True)
        self.assertIs(one <= Table([]), False)
        with self.assertRaises(TypeError):
            one <= [(1,), (2,)]

    def test_or(self):
        one, two = Table([(2,), (1,), (5,)]), Table([(4,), (1,), (0,), (2,)])
        self.assertEqual((one | two).listed(), [(2,), (1,), (5,), (4,), (0,)])
        self.assertEqual((two | one).listed(), [(4,), (1,), (0,), (2,), (5,)])
        self.assertEqual((one | Table([])).listed(), one.listed())
        self.assertEqual((Table([]) | one).listed(), one.listed())
        self.assertIsInstance(one | two, Table)
        self.assertEqual((one.listed(), two.listed()), ([(2,), (1,), (5,)], [(4,), (1,), (0,), (2,)]))
        with self.assertRaises(TypeError):
            one | [(1,)]

    def test_and(self):
        one, two = Table([(2,), (1,), (5,)]), Table([(4,), (1,), (0,), (2,)])
        self.assertEqual((one & two).listed(), [(2,), (1,)])
        self.assertEqual((two & one).listed(), [(1,), (2,)])
        self.assertEqual((one & Table([])).listed(), [])
        self.assertIsInstance(one & two, Table)
        self.assertEqual((one.listed(), two.listed()), ([(2,), (1,), (5,)], [(4,), (1,), (0,), (2,)]))
        with self.assertRaises(TypeError):
            one & [(1,)]

    def test_names_of_arguments(self):
        self.assertEqual(Table(states=[(1,)]), Table([(1,)]))
        table = Table(all_states(SETTINGS[0]))
        self.assertIsNone(gap(setting=SETTINGS[0], table=table))
        self.assertIs(is_closed(states=table.listed(), setting=SETTINGS[0]), True)


class TestGap(TableCase):
    def first_gap(self, setting, rows):
        """The first break, read off from the states one after the other."""
        queue = [first_state(setting)]
        if queue[0] not in rows:
            return (None, None)
        for state in queue:
            for move in moves(setting, state):
                other = step(setting, state, move)
                if is_fault(other) or other not in rows:
                    return (state, move)
                if other not in queue:
                    queue.append(other)
        return None

    def test_all_states(self):
        for setting in CLOSED:
            self.assertIsNone(gap(Table(all_states(setting)), setting))
        self.assertTrue(CLOSED)

    def test_a_move_to_a_fault(self):
        for setting in OPEN:
            rows = all_states(setting)
            run = shortest(setting)
            state = first_state(setting)
            for move in run[:-1]:
                state = step(setting, state, move)
            self.assertEqual(gap(Table(rows), setting), (state, run[-1]))
            # A fault is no state: nothing changes if the table has it.
            fault = step(setting, state, run[-1])
            self.assertEqual(gap(Table([*rows, fault]), setting), (state, run[-1]))
        self.assertTrue(OPEN)

    def test_the_first_state_is_missing(self):
        for setting in SETTINGS:
            rows = all_states(setting)
            for table in (Table([]), Table(rows[1:]), Table([()])):
                self.assertEqual(gap(table, setting), (None, None))

    def test_each_other_state_missing(self):
        for setting in SETTINGS:
            rows = all_states(setting)
            for at in range(1, len(rows), 1 + len(rows) // 40):
                left = rows[:at] + rows[at + 1:]
                found = gap(Table(left), setting)
                self.assertEqual(found, self.first_gap(setting, left))
                self.assertIs(type(found), tuple)

    def test_many_states_missing(self):
        for setting in SETTINGS:
            rows = all_states(setting)
            for left in (rows[:1], rows[:2], rows[::2], rows[:len(rows) // 2], [rows[0], *rows[len(rows) // 2:]]):
                self.assertEqual(gap(Table(left), setting), self.first_gap(setting, left))

    def test_by_breadth_and_not_by_the_order_of_the_table(self):
        setting = Setting(WakingBook(), 1)
        table = Table([(2, 1, ("done",)), (1, 1, ("making",)), (0, 1, ("out",))])
        self.assertEqual(gap(table, setting), ((1, 1, ("making",)), (0, "fail")))
        self.assertEqual(gap(table | Table([(0, 0, ("refused",))]), setting), ((2, 1, ("done",)), (0, "end")))

    def test_junk_among_closed_states(self):
        for setting in CLOSED:
            rows = all_states(setting)
            junk = [(), ("half", 0, None), ("junk",), (9, 9, 9), EIGHT]
            self.assertIsNone(gap(Table(junk + rows[::-1] + rows), setting))
            self.assertIsNone(gap(Table(rows) | Table(STATES), setting))

    def test_the_state_is_told_as_runs_come_to_it(self):
        """A table may have 1 for True, but what is told is a state of the setting."""
        setting = Setting(LateBook(), 2)
        rows = [(int(False), (), (0, 0, 0, 0), (("out", None),))]
        state, move = gap(Table(rows), setting)
        self.assertEqual(repr((state, move)), repr((first_state(setting), (0, "write"))))
        self.assertIsNone(gap(Table([(at, store, tuple(int(seen) for seen in memory), readers)
                                     for at, store, memory, readers in all_states(setting)]), setting))

    def test_no_table_ahead_of_no_setting(self):
        setting = SETTINGS[0]
        for value in odd_values() + [Table, all_states(setting), first_state(setting), setting, {"states": []}]:
            for other in (setting, None, Touchy(), value):
                self.no_table(value, lambda table: gap(table, other))
        for value in NO_SETTINGS:
            for table in (Table([]), Table(all_states(setting))):
                with self.assertRaises(NoSetting) as caught:
                    gap(table, value)
                self.assertIsNone(caught.exception.word)

    def test_errors_are_made_errors(self):
        for call in (lambda: Table(None), lambda: gap(None, None), lambda: gap(Table([]), None),
                     lambda: is_closed(None, None)):
            with self.assertRaises(MadeError):
                call()


class TestIsClosed(TableCase):
    def test_all_states(self):
        for setting in SETTINGS:
            rows = all_states(setting)
            for states in (rows, tuple(rows), rows[::-1], rows + rows, [(), ("junk", 0), *rows]):
                self.assertIs(is_closed(setting, states), setting in CLOSED)

    def test_some_states_are_missing(self):
        for setting in CLOSED:
            rows = all_states(setting)
            for at in range(0, len(rows), 1 + len(rows) // 20):
                self.assertIs(is_closed(setting, rows[:at] + rows[at + 1:]), False)
            self.assertIs(is_closed(setting, []), False)

    def test_states_of_another_setting(self):
        setting = Setting(WakingBook(), 2)
        for other in (Setting(WakingBook(), 3), Setting(WakingBook(), 2, fails=0), Setting(WakingBook(wake="none"), 2),
                      Setting(FirstBook()), Setting(RIGHT_NET)):
            self.assertIs(is_closed(setting, all_states(other)), False)
        self.assertIs(is_closed(setting, all_states(setting)), True)

    def test_what_table_does_not_take(self):
        for setting in CLOSED[:4]:
            rows = all_states(setting)
            for value in NO_STATES:
                self.assertIs(is_closed(setting, [*rows, value]), False)
                self.assertIs(is_closed(setting, (value, *rows)), False)
            for value in [*odd_values(), Table(rows), iter(rows), dict.fromkeys(rows), set(rows), [rows],
                          [list(row) for row in rows], tuple(rows[0]), first_state(setting)]:
                self.assertIs(is_closed(setting, value), False)

    def test_no_setting_ahead_of_all_else(self):
        for value in NO_SETTINGS:
            for states in odd_values() + [all_states(SETTINGS[0]), Table([]), value]:
                with self.assertRaises(NoSetting) as caught:
                    is_closed(value, states)
                self.assertIsNone(caught.exception.word)

    def test_true_and_one_are_alike(self):
        setting = Setting(LateBook(), 2)
        rows = [(at, store, tuple(int(seen) for seen in memory), readers)
                for at, store, memory, readers in all_states(setting)]
        self.assertIs(is_closed(setting, rows), True)

    def test_a_ring_is_stuck_although_no_fault_that_is_a_state_is_come_to(self):
        """Being stuck is a fault without a state: closed tables tell nothing of it."""
        setting = Setting(WakingBook(wake="none"), 2)
        self.assertIs(is_closed(setting, all_states(setting)), True)
        self.assertIs(is_closed(Setting(RING), all_states(Setting(RING))), False)
        right = Setting(NetBook(Net({"a": ("b",), "b": ()})))
        self.assertIs(is_closed(right, all_states(right)), True)


if __name__ == "__main__":
    unittest.main()
