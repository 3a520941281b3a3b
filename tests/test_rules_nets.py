"""Nets: the deeds of net books with each guard, state by state."""

import unittest

from firstmade.books import NetBook
from firstmade.nets import Net
from firstmade.rules import first_state, is_out, moves, step
from firstmade.settings import Setting
from tests.exploring import come_to, net_books
from tests.walking import WalkCase

CHAIN = {"a": ("b",), "b": ()}
FORK = {"a": ("c", "b"), "b": (), "c": ()}


def setting_of(needs, hands=1, guard="own"):
    return Setting(NetBook(Net(needs), guard=guard), hands)


class TestStart(WalkCase):
    def test_first_states_and_moves(self):
        for book in net_books("ab") + net_books("c"):
            for hands in (1, 2, 3, 4):
                setting = Setting(book, hands)
                state = first_state(setting)
                self.assertEqual(state, ((), None, ((),) * hands))
                self.assertEqual(moves(setting, state), [(hand, name) for hand in range(hands) for name in book.needs.names()])

    def test_other_numbers_do_not_matter(self):
        book = NetBook(Net(CHAIN))
        self.assertEqual(come_to(Setting(book, makes=6, fails=4)), come_to(Setting(book)))

    def test_names_that_are_words_of_deeds(self):
        setting = setting_of({"own": ("make",), "make": (), "take": (), "ask": (), "need": ()})
        state = first_state(setting)
        self.assertEqual(moves(setting, state), [(0, name) for name in ("ask", "make", "need", "own", "take")])
        for name in ("ask", "make", "need", "own", "take"):
            self.assertEqual(step(setting, state, (0, name)), ((), None, (((name, -1),),)))


class TestAlone(WalkCase):
    def test_a_chain_with_own_guards(self):
        self.walk(setting_of(CHAIN),
                  ((0, "a"), ((), None, ((("a", -1),),))),
                  ((0, "own"), ((), None, ((("a", 0),),))),
                  ((0, "need"), ((), None, ((("a", 0), ("b", -1)),))),
                  ((0, "own"), ((), None, ((("a", 0), ("b", 0)),))),
                  ((0, "make"), (("b",), None, ((("a", 1),),))),
                  ((0, "make"), (("a", "b"), None, ((),))))

    def test_a_chain_with_one_guard(self):
        self.walk(setting_of(CHAIN, guard="one"),
                  ((0, "a"), ((), None, ((("a", -1),),))),
                  ((0, "own"), ((), 0, ((("a", 0),),))),
                  ((0, "need"), ((), 0, ((("a", 0), ("b", -1)),))),
                  ((0, "own"), ((), 0, ((("a", 0), ("b", 0)),))),
                  ((0, "make"), (("b",), 0, ((("a", 1),),))),
                  ((0, "make"), (("a", "b"), None, ((),))))

    def test_needs_in_their_order_and_made_ones_ascending(self):
        setting = setting_of(FORK)
        state = self.walk(setting, ((0, "a"), ((), None, ((("a", -1),),))),
                          ((0, "own"), ((), None, ((("a", 0),),))),
                          ((0, "need"), ((), None, ((("a", 0), ("c", -1)),))),
                          ((0, "own"), ((), None, ((("a", 0), ("c", 0)),))),
                          ((0, "make"), (("c",), None, ((("a", 1),),))),
                          ((0, "need"), (("c",), None, ((("a", 1), ("b", -1)),))),
                          ((0, "own"), (("c",), None, ((("a", 1), ("b", 0)),))),
                          ((0, "make"), (("b", "c"), None, ((("a", 2),),))))
        self.assertEqual(moves(setting, state), [(0, "make")])

    def test_a_longer_chain(self):
        setting = setting_of({"a": ("b",), "b": ("d", "c"), "c": (), "d": ()}, guard="one")
        state = self.walk(setting, ((0, "a"), ((), None, ((("a", -1),),))),
                          ((0, "own"), ((), 0, ((("a", 0),),))),
                          ((0, "need"), ((), 0, ((("a", 0), ("b", -1)),))),
                          ((0, "own"), ((), 0, ((("a", 0), ("b", 0)),))),
                          ((0, "need"), ((), 0, ((("a", 0), ("b", 0), ("d", -1)),))),
                          ((0, "own"), ((), 0, ((("a", 0), ("b", 0), ("d", 0)),))),
                          ((0, "make"), (("d",), 0, ((("a", 0), ("b", 1)),))),
                          ((0, "need"), (("d",), 0, ((("a", 0), ("b", 1), ("c", -1)),))),
                          ((0, "own"), (("d",), 0, ((("a", 0), ("b", 1), ("c", 0)),))),
                          ((0, "make"), (("c", "d"), 0, ((("a", 0), ("b", 2)),))),
                          ((0, "make"), (("b", "c", "d"), 0, ((("a", 1),),))),
                          ((0, "make"), (("a", "b", "c", "d"), None, ((),))))
        self.assertEqual(moves(setting, state), [])

    def test_a_take_counts_for_the_value_right_ahead(self):
        setting = setting_of({"a": ("b",), "b": ("c",), "c": ()})
        state = self.end_of(setting, (0, "c"), (0, "own"), (0, "make"), (0, "a"), (0, "own"), (0, "need"), (0, "own"),
                            (0, "need"))
        self.assertEqual(state, (("c",), None, ((("a", 0), ("b", 0), ("c", -1)),)))
        self.assertEqual(step(setting, state, (0, "take")), (("c",), None, ((("a", 0), ("b", 1)),)))

    def test_what_is_made_is_taken(self):
        for guard, lock in (("own", None), ("one", 0)):
            setting = setting_of(CHAIN, guard=guard)
            state = self.end_of(setting, (0, "b"), (0, "own"), (0, "make"))
            self.assertEqual(state, (("b",), None, ((),)))
            self.assertEqual(moves(setting, state), [(0, "a")])
            state = self.end_of(setting, (0, "b"), (0, "own"), (0, "make"), (0, "a"), (0, "own"), (0, "need"))
            self.assertEqual(state, (("b",), lock, ((("a", 0), ("b", -1)),)))
            self.assertEqual(moves(setting, state), [(0, "take")])
            self.assertEqual(step(setting, state, (0, "take")), (("b",), lock, ((("a", 1),),)))

    def test_one_deed_at_each_place(self):
        setting = setting_of(CHAIN)
        rows = [[(0, "a"), (0, "b")], [(0, "own")], [(0, "need")], [(0, "own")], [(0, "make")], [(0, "make")], []]
        state = first_state(setting)
        for row in rows[:-1]:
            self.assertEqual(moves(setting, state), row)
            state = step(setting, state, row[0])
        self.assertEqual(moves(setting, state), [])


class TestItself(WalkCase):
    def test_a_value_that_needs_itself(self):
        for guard, lock in (("own", None), ("one", 1)):
            setting = setting_of({"a": ("a",)}, 2, guard)
            state = self.end_of(setting, (1, "a"), (1, "own"), (1, "need"))
            self.assertEqual(state, ((), lock, ((), (("a", 0), ("a", -1)))))
            self.assertEqual(self.deeds(setting, state, 1), ["ask"])
            self.is_last(setting, step(setting, state, (1, "ask")), "itself", 1, "a")

    def test_a_longer_ring(self):
        for guard in ("own", "one"):
            setting = setting_of({"a": ("b",), "b": ("c",), "c": ("b",)}, guard=guard)
            state = self.end_of(setting, (0, "a"), (0, "own"), *[(0, "need"), (0, "own")] * 2, (0, "need"))
            self.assertEqual(state[-1], ((("a", 0), ("b", 0), ("c", 0), ("b", -1)),))
            self.assertEqual(moves(setting, state), [(0, "ask")])
            self.is_last(setting, step(setting, state, (0, "ask")), "itself", 0, "b")

    def test_what_another_hand_owns_is_not_asked_for(self):
        setting = setting_of({"a": ("b",), "b": ("a",)}, 2)
        state = self.end_of(setting, (0, "a"), (0, "own"), (1, "b"), (1, "own"), (0, "need"), (1, "need"))
        self.assertEqual(state, ((), None, ((("a", 0), ("b", -1)), (("b", 0), ("a", -1)))))
        self.assertEqual(moves(setting, state), [])


class TestWaiting(WalkCase):
    def test_what_another_hand_owns_is_waited_for(self):
        setting = setting_of({"a": (), "b": ()}, 2)
        state = self.end_of(setting, (0, "a"), (1, "a"))
        self.assertEqual(moves(setting, state), [(0, "own"), (1, "own")])
        state = step(setting, state, (1, "own"))
        self.assertEqual(state, ((), None, ((("a", -1),), (("a", 0),))))
        self.assertEqual(moves(setting, state), [(1, "make")])
        state = step(setting, state, (1, "make"))
        self.assertEqual(state, (("a",), None, ((("a", -1),), ())))
        self.assertEqual(moves(setting, state), [(0, "take"), (1, "b")])
        self.assertEqual(step(setting, state, (0, "take")), (("a",), None, ((), ())))

    def test_what_is_owned_further_ahead_in_the_stack_of_another_hand(self):
        setting = setting_of({"a": ("b",), "b": ()}, 2)
        state = self.end_of(setting, (0, "a"), (0, "own"), (0, "need"), (0, "own"), (1, "a"))
        self.assertEqual(moves(setting, state), [(0, "make")])
        state = self.end_of(setting, (0, "a"), (0, "own"), (0, "need"), (0, "own"), (1, "b"))
        self.assertEqual(moves(setting, state), [(0, "make")])

    def test_what_is_only_wanted_is_not_owned(self):
        setting = setting_of({"a": ("b",), "b": ()}, 2)
        state = self.end_of(setting, (0, "a"), (0, "own"), (0, "need"), (1, "b"))
        self.assertEqual(moves(setting, state), [(0, "own"), (1, "own")])

    def test_own_guards_are_apart(self):
        setting = setting_of({"a": (), "b": ()}, 2)
        state = self.end_of(setting, (0, "a"), (0, "own"), (1, "b"))
        self.assertEqual(moves(setting, state), [(0, "make"), (1, "own")])
        self.assertEqual(step(setting, state, (1, "own")), ((), None, ((("a", 0),), (("b", 0),))))

    def test_the_one_lock_is_waited_for(self):
        setting = setting_of({"a": ("c",), "b": (), "c": ()}, 2, "one")
        state = self.end_of(setting, (1, "a"), (1, "own"), (0, "b"))
        self.assertEqual(state, ((), 1, ((("b", -1),), (("a", 0),))))
        self.assertEqual(moves(setting, state), [(1, "need")])
        state = self.end_of(setting, (1, "a"), (1, "own"), (0, "b"), (1, "need"), (1, "own"), (1, "make"))
        self.assertEqual(state, (("c",), 1, ((("b", -1),), (("a", 1),))))
        self.assertEqual(moves(setting, state), [(1, "make")])
        state = step(setting, state, (1, "make"))
        self.assertEqual(state, (("a", "c"), None, ((("b", -1),), ())))
        self.assertEqual(moves(setting, state), [(0, "own"), (1, "b")])
        self.assertEqual(step(setting, state, (0, "own")), (("a", "c"), 0, ((("b", 0),), ())))

    def test_a_take_of_another_hand_leaves_the_one_lock(self):
        setting = setting_of({"a": (), "b": ()}, 3, "one")
        state = self.end_of(setting, (0, "a"), (1, "a"), (0, "own"), (0, "make"), (2, "b"), (2, "own"))
        self.assertEqual(state, (("a",), 2, ((), (("a", -1),), (("b", 0),))))
        self.assertEqual(moves(setting, state), [(0, "b"), (1, "take"), (2, "make")])
        self.assertEqual(step(setting, state, (1, "take")), (("a",), 2, ((), (), (("b", 0),))))

    def test_a_take_without_the_lock_leaves_it_free(self):
        setting = setting_of({"a": ()}, 2, "one")
        state = self.end_of(setting, (0, "a"), (1, "a"), (0, "own"), (0, "make"), (1, "take"))
        self.assertEqual(state, (("a",), None, ((), ())))

    def test_a_need_that_another_hand_has_made(self):
        setting = setting_of(CHAIN, 2)
        state = self.end_of(setting, (0, "a"), (0, "own"), (0, "need"), (1, "b"), (1, "own"))
        self.assertEqual(moves(setting, state), [(1, "make")])
        state = step(setting, state, (1, "make"))
        self.assertEqual(state, (("b",), None, ((("a", 0), ("b", -1)), ())))
        self.assertEqual(moves(setting, state), [(0, "take"), (1, "a")])
        self.assertEqual(step(setting, state, (0, "take")), (("b",), None, ((("a", 1),), ())))


class TestOut(WalkCase):
    def test_a_hand_is_out_without_a_stack(self):
        for book in net_books("ab"):
            setting = Setting(book)
            for state in come_to(setting):
                for hand in (0, 1):
                    self.assertIs(is_out(setting, state, hand), state[-1][hand] == ())

    def test_the_lock_is_that_of_a_hand_that_owns(self):
        for book in net_books("ab"):
            for made, lock, hands in come_to(Setting(book)):
                owners = [hand for hand in (0, 1) if any(at >= 0 for _, at in hands[hand])]
                self.assertEqual(lock, owners[0] if book.guard == "one" and owners else None)
                if book.guard == "one":
                    self.assertLessEqual(len(owners), 1)


if __name__ == "__main__":
    unittest.main()
