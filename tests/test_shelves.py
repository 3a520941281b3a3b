"""Shelves: values under names that may ask for one another."""

import unittest

from firstmade.errors import Failed, Failing, NoName
from firstmade.onces import Shelf
from tests.odd_values import odd_values


class ShelfCase(unittest.TestCase):
    def fails(self, why, call, *args):
        with self.assertRaises(Failed) as caught:
            call(*args)
        self.assertEqual(caught.exception.why, why)
        return caught.exception

    def no_name(self, name, call, *args):
        with self.assertRaises(NoName) as caught:
            call(*args)
        self.assertIs(caught.exception.name, name)

    def told(self, shelf, made, makings, asked):
        self.assertEqual(shelf.made(), made)
        self.assertEqual({name: shelf.makings(name) for name in shelf.names()}, makings)
        self.assertEqual({name: shelf.asked(name) for name in shelf.names()}, asked)


def raising(*turns):
    """A function of a shelf that returns or raises these in turn, the last one again and again."""
    rest = list(turns)

    def make(shelf):
        turn = rest.pop(0) if len(rest) > 1 else rest[0]
        if isinstance(turn, BaseException):
            raise turn
        return turn

    return make


def chain():
    """a needs b and c, b needs c, d needs nothing."""
    return Shelf({
        "d": lambda shelf: "d",
        "a": lambda shelf: "a" + shelf("b") + shelf("c"),
        "c": lambda shelf: "c",
        "b": lambda shelf: "b" + shelf("c"),
    })


class TestNames(ShelfCase):
    def test_what_a_name_is(self):
        for name in ("a", "z", "ab", "abcdefgh", "zzzzzzzz", "az"):
            self.assertEqual(Shelf({name: len}).names(), [name])

    def test_the_first_key_that_is_no_name(self):
        keys = [None, True, 0, 1, 1.5, "", " ", "A", "aB", "a1", "1", "a b", "a-b", "a_b", " a", "a\n", "abcdefghi",
                b"a", (), ("a",), frozenset()]
        for key in keys:
            self.no_name(key, Shelf, {key: len})
            self.no_name(key, lambda: Shelf(makes={"b": len, key: len, "c": len, "D": len, 7: len}, kept=True))

    def test_the_first_is_the_first_of_the_dict(self):
        self.no_name("Z", Shelf, {"z": len, "Z": len, "A": len})
        self.no_name("A", Shelf, {"z": len, "A": len, "Z": len})

    def test_names_ascending(self):
        shelf = Shelf({name: len for name in ("c", "ab", "b", "a", "abc")})
        self.assertEqual(shelf.names(), ["a", "ab", "abc", "b", "c"])
        self.assertEqual(len(shelf), 5)

    def test_the_empty_shelf(self):
        shelf = Shelf({})
        self.assertEqual((shelf.names(), shelf.made(), len(shelf)), ([], [], 0))
        self.assertIs("a" in shelf, False)
        self.no_name("a", shelf, "a")

    def test_in_tells_of_any_value(self):
        shelf = chain()
        for name in ("a", "b", "c", "d"):
            self.assertIs(name in shelf, True)
            self.assertIs(name not in shelf, False)
        self.assertIs("e" in shelf, False)
        for value in odd_values():
            self.assertIs(value in shelf, False)

    def test_no_name_of_the_shelf(self):
        shelf = chain()
        shelf("b")
        for value in ["e", "ab"] + odd_values():
            for call in (shelf, shelf.asked, shelf.makings, shelf.forget):
                self.no_name(value, call, value)
                self.no_name(value, lambda: call(name=value))
        self.told(shelf, ["c", "b"], {"a": 0, "b": 1, "c": 1, "d": 0}, {"a": [], "b": ["c"], "c": [], "d": []})

    def test_the_dict_is_copied(self):
        makes = {"a": lambda shelf: 1}
        shelf = Shelf(makes)
        makes["a"] = lambda shelf: 2
        makes["b"] = lambda shelf: 3
        self.assertEqual((shelf("a"), shelf.names(), len(shelf), "b" in shelf), (1, ["a"], 1, False))
        makes.clear()
        shelf.forget("a")
        self.assertEqual((shelf("a"), shelf.names()), (1, ["a"]))

    def test_returned_lists_are_new_ones(self):
        shelf = chain()
        shelf("a")
        for tell in (shelf.names, shelf.made, lambda: shelf.asked("a")):
            before = tell()
            tell().append("z")
            tell().clear()
            self.assertEqual(tell(), before)
        self.assertEqual(shelf("a"), "abcc")

    def test_a_list_of_a_value_that_is_being_made_does_not_grow(self):
        lists = []

        def make(shelf):
            lists.extend([shelf.asked("a"), shelf.made()])
            shelf("b")
            lists.extend([shelf.asked("a"), shelf.made()])

        shelf = Shelf({"a": make, "b": raising(2)})
        shelf("a")
        self.assertEqual(lists, [[], [], ["b"], ["b"]])


class TestMaking(ShelfCase):
    def test_nothing_is_made_at_first(self):
        self.told(chain(), [], dict.fromkeys("abcd", 0), {name: [] for name in "abcd"})

    def test_each_function_gets_the_shelf_itself(self):
        got = []
        shelf = Shelf(makes={"a": got.append, "b": lambda one: one("a")})
        self.assertIsNone(shelf("b"))
        self.assertIs(got[0], shelf)
        self.assertEqual(len(got), 1)

    def test_made_at_the_first_asking_and_kept(self):
        value = []
        shelf = Shelf({"a": raising(value, "another"), "b": raising(None, "another")})
        for _ in range(3):
            self.assertIs(shelf("a"), value)
            self.assertIs(shelf(name="b"), None)
            self.assertEqual((shelf.makings("a"), shelf.makings("b")), (1, 1))
        value.append(1)
        self.assertEqual(shelf("a"), [1])

    def test_made_is_in_the_order_in_which_the_makings_ended(self):
        shelf = chain()
        self.assertEqual(shelf("a"), "abcc")
        self.told(shelf, ["c", "b", "a"], {"a": 1, "b": 1, "c": 1, "d": 0},
                  {"a": ["b", "c"], "b": ["c"], "c": [], "d": []})
        shelf("d")
        self.assertEqual(shelf.made(), ["c", "b", "a", "d"])
        other = chain()
        for name in ("d", "c", "a", "b"):
            other(name)
        self.assertEqual(other.made(), ["d", "c", "b", "a"])

    def test_made_while_a_making_goes_on(self):
        seen = []

        def make(shelf):
            seen.append((shelf.made(), shelf.makings("a"), shelf.asked("a")))
            shelf("b")
            seen.append((shelf.made(), shelf.makings("a"), shelf.asked("a")))

        shelf = Shelf({"a": make, "b": raising(2)})
        shelf("a")
        self.assertEqual(seen, [([], 1, []), (["b"], 1, ["b"])])
        self.assertEqual(shelf.made(), ["b", "a"])

    def test_a_value_on_a_long_way(self):
        names = [one + two for one in "abcdef" for two in "abcdefgh"]
        makes = {names[0]: lambda shelf: 1}
        for at in range(1, len(names)):
            makes[names[at]] = lambda shelf, ahead=names[at - 1]: shelf(ahead) + 1
        shelf = Shelf(makes)
        self.assertEqual(shelf(names[-1]), 48)
        self.assertEqual(shelf.made(), names)
        self.assertEqual([shelf.makings(name) for name in names], [1] * 48)

    def test_kept_only_by_name(self):
        with self.assertRaises(TypeError):
            Shelf({}, True)


class TestAsked(ShelfCase):
    def test_unlike_names_in_the_order_of_asking(self):
        shelf = Shelf({"a": lambda shelf: [shelf(name) for name in "dbdcbbd"],
                       "b": raising(2), "c": raising(3), "d": raising(4)})
        shelf("c")
        shelf("a")
        self.assertEqual(shelf.asked("a"), ["d", "b", "c"])
        self.assertEqual(shelf.made(), ["c", "d", "b", "a"])

    def test_asked_is_of_the_making_itself_not_of_those_in_it(self):
        shelf = Shelf({"a": lambda shelf: (shelf("b"), shelf("d")), "b": lambda shelf: shelf("c"),
                       "c": lambda shelf: shelf("d"), "d": raising(4)})
        shelf("a")
        self.told(shelf, ["d", "c", "b", "a"], dict.fromkeys("abcd", 1),
                  {"a": ["b", "d"], "b": ["c"], "c": ["d"], "d": []})

    def test_asking_from_outside_is_no_asking_of_a_making(self):
        shelf = chain()
        shelf("b")
        shelf("d")
        shelf("a")
        shelf("d")
        self.assertEqual([shelf.asked(name) for name in "abcd"], [["b", "c"], ["c"], [], []])

    def test_also_those_that_failed(self):
        def make(shelf):
            for name in ("b", "a", "c"):
                self.fails("itself" if name == "a" else name, shelf, name)
            return 1

        for kept in (False, True):
            shelf = Shelf({"a": make, "b": raising(Failing("b")), "c": raising(Failed("c"))}, kept=kept)
            if kept:
                self.fails("b", shelf, "b")
            self.assertEqual(shelf("a"), 1)
            self.told(shelf, ["a"], {"a": 1, "b": 1, "c": 1}, {"a": ["b", "a", "c"], "b": [], "c": []})

    def test_those_that_end_with_another_error(self):
        def make(shelf):
            self.assertRaises(KeyError, shelf, "b")
            return shelf("c")

        shelf = Shelf({"a": make, "b": lambda shelf: {}[shelf("c")], "c": raising(3)})
        self.assertEqual(shelf("a"), 3)
        self.told(shelf, ["c", "a"], {"a": 1, "b": 1, "c": 1}, {"a": ["b", "c"], "b": ["c"], "c": []})

    def test_no_names_that_the_shelf_does_not_have(self):
        def make(shelf):
            for value in ["x", "bb"] + odd_values():
                self.no_name(value, shelf, value)
            return shelf("b")

        shelf = Shelf({"a": make, "b": raising(2)})
        self.assertEqual(shelf("a"), 2)
        self.assertEqual(shelf.asked("a"), ["b"])

    def test_only_of_the_last_begun_making(self):
        turns = [["b", "c"], ["c"], []]
        shelf = Shelf({"a": lambda shelf: [shelf(name) for name in turns.pop(0)],
                       "b": raising(2), "c": raising(Failing("c"), 3)})
        self.fails("c", shelf, "a")
        self.assertEqual((shelf.asked("a"), shelf.makings("a")), (["b", "c"], 1))
        shelf("a")
        self.assertEqual((shelf.asked("a"), shelf.makings("a")), (["c"], 2))
        shelf.forget("a")
        self.assertEqual((shelf.asked("a"), shelf.makings("a")), (["c"], 2))
        shelf("a")
        self.assertEqual((shelf.asked("a"), shelf.makings("a")), ([], 3))

    def test_other_questions_are_no_asking(self):
        def make(shelf):
            return ("b" in shelf, shelf.made(), shelf.asked("b"), shelf.makings("b"), shelf.forget("b"), len(shelf))

        shelf = Shelf({"a": make, "b": raising(2)})
        self.assertEqual(shelf("a"), (True, [], [], 0, None, 2))
        self.assertEqual(shelf.asked("a"), [])

    def test_what_is_asked_behind_the_making_is_not_told(self):
        shelf = Shelf({"a": lambda shelf: lambda: shelf("b"), "b": raising(2), "c": lambda shelf: shelf("a")()})
        self.assertEqual(shelf("a")(), 2)
        self.assertEqual(shelf.asked("a"), [])
        shelf("c")
        self.assertEqual((shelf.asked("a"), shelf.asked("c")), ([], ["a", "b"]))


class TestFailing(ShelfCase):
    def test_failing_and_failed(self):
        for kind in (Failing, Failed):
            raised = kind("why")
            shelf = Shelf({"a": raising(raised, "value"), "b": lambda shelf: shelf("a")})
            failed = self.fails("why", shelf, "a")
            self.assertIsNot(failed, raised)
            self.assertIs(failed.__cause__, raised)
            self.told(shelf, [], {"a": 1, "b": 0}, {"a": [], "b": []})
            self.assertEqual(shelf("a"), "value")
            self.told(shelf, ["a"], {"a": 2, "b": 0}, {"a": [], "b": []})

    def test_a_failure_fails_those_that_asked(self):
        raised = Failing("why")
        shelf = Shelf({"a": lambda shelf: shelf("b"), "b": lambda shelf: shelf("c"), "c": raising(raised, 3)})
        failed = self.fails("why", shelf, "a")
        self.assertIs(failed.__cause__.__cause__.__cause__, raised)
        self.told(shelf, [], {"a": 1, "b": 1, "c": 1}, {"a": ["b"], "b": ["c"], "c": []})
        self.assertEqual(shelf("a"), 3)
        self.told(shelf, ["c", "b", "a"], {"a": 2, "b": 2, "c": 2}, {"a": ["b"], "b": ["c"], "c": []})

    def test_kept_failures(self):
        shelf = Shelf(makes={"a": lambda shelf: shelf("b"), "b": raising(Failing("why"), 2)}, kept=True)
        self.assertIsNotNone(self.fails("why", shelf, "b").__cause__)
        self.assertIsNone(self.fails("why", shelf, "b").__cause__)
        cause = self.fails("why", shelf, "a").__cause__
        self.assertEqual((cause.why, cause.__cause__), ("why", None))
        self.assertIsNone(self.fails("why", shelf, "a").__cause__)
        self.told(shelf, [], {"a": 1, "b": 1}, {"a": ["b"], "b": []})
        self.assertIsNone(shelf.forget("b"))
        self.fails("why", shelf, "a")
        self.assertEqual(shelf("b"), 2)
        self.fails("why", shelf, "a")
        shelf.forget("a")
        self.assertEqual(shelf("a"), 2)
        self.told(shelf, ["b", "a"], {"a": 2, "b": 2}, {"a": ["b"], "b": []})

    def test_other_errors_pass_on_and_nothing_is_kept(self):
        for error in (KeyError("x"), ValueError("x"), RuntimeError("x"), KeyboardInterrupt(), GeneratorExit()):
            for kept in (False, True):
                shelf = Shelf({"a": lambda shelf: shelf("b"), "b": raising(error, 2)}, kept=kept)
                with self.assertRaises(type(error)) as caught:
                    shelf("a")
                self.assertIs(caught.exception, error)
                self.assertIsNone(error.__cause__)
                self.told(shelf, [], {"a": 1, "b": 1}, {"a": ["b"], "b": []})
                self.assertEqual(shelf("a"), 2)
                self.told(shelf, ["b", "a"], {"a": 2, "b": 2}, {"a": ["b"], "b": []})

    def test_an_unknown_name_passes_on_as_no_name(self):
        for kept in (False, True):
            shelf = Shelf({"a": lambda shelf: shelf("x"), "b": lambda shelf: shelf("a")}, kept=kept)
            for times in (1, 2):
                with self.assertRaises(NoName) as caught:
                    shelf("b")
                self.assertEqual(caught.exception.name, "x")
                self.told(shelf, [], {"a": times, "b": times}, {"a": [], "b": ["a"]})

    def test_a_making_that_asks_for_itself(self):
        for kept in (False, True):
            shelf = Shelf({"a": lambda shelf: shelf("a")}, kept=kept)
            failed = self.fails("itself", shelf, "a")
            self.assertEqual((failed.__cause__.why, failed.__cause__.__cause__), ("itself", None))
            self.told(shelf, [], {"a": 1}, {"a": ["a"]})
            self.fails("itself", shelf, "a")
            self.told(shelf, [], {"a": 1 if kept else 2}, {"a": ["a"]})

    def test_a_making_that_asks_for_itself_through_another_value(self):
        makes = {"a": lambda shelf: shelf("b"), "b": lambda shelf: shelf("c"), "c": lambda shelf: shelf("a")}
        shelf = Shelf(makes)
        self.fails("itself", shelf, "b")
        self.told(shelf, [], dict.fromkeys("abc", 1), {"a": ["b"], "b": ["c"], "c": ["a"]})
        self.fails("itself", shelf, "a")
        self.told(shelf, [], dict.fromkeys("abc", 2), {"a": ["b"], "b": ["c"], "c": ["a"]})
        keeping = Shelf(makes, kept=True)
        self.fails("itself", keeping, "b")
        for name in "abc":
            self.assertIsNone(self.fails("itself", keeping, name).__cause__)
        self.assertEqual([keeping.makings(name) for name in "abc"], [1, 1, 1])

    def test_going_on_behind_it(self):
        def make(shelf):
            self.fails("itself", shelf, "a")
            return shelf("c") + 1

        shelf = Shelf({"a": lambda shelf: shelf("b") + shelf("c"), "b": make, "c": raising(3)}, kept=True)
        self.assertEqual(shelf("a"), 7)
        self.told(shelf, ["c", "b", "a"], dict.fromkeys("abc", 1), {"a": ["b", "c"], "b": ["a", "c"], "c": []})


class TestForgetting(ShelfCase):
    def test_a_value_is_gone(self):
        shelf = chain()
        shelf("a")
        self.assertIsNone(shelf.forget("b"))
        self.assertEqual(shelf.made(), ["c", "a"])
        self.assertEqual(shelf("a"), "abcc")
        self.assertEqual(shelf.makings("b"), 1)
        self.assertEqual(shelf("b"), "bc")
        self.told(shelf, ["c", "a", "b"], {"a": 1, "b": 2, "c": 1, "d": 0},
                  {"a": ["b", "c"], "b": ["c"], "c": [], "d": []})

    def test_nothing_to_forget(self):
        shelf = chain()
        self.assertIsNone(shelf.forget("a"))
        self.assertIsNone(shelf.forget("a"))
        self.assertEqual((shelf.makings("a"), shelf("a")), (0, "abcc"))

    def test_not_while_it_is_being_made(self):
        def make(shelf):
            self.fails("itself", shelf.forget, "a")
            self.fails("itself", shelf.forget, "b")
            self.assertIsNone(shelf.forget("c"))
            return shelf("c")

        shelf = Shelf({"a": lambda shelf: shelf("b"), "b": make, "c": raising(3)})
        shelf("c")
        self.assertEqual(shelf("a"), 3)
        self.told(shelf, ["c", "b", "a"], {"a": 1, "b": 1, "c": 2}, {"a": ["b"], "b": ["c"], "c": []})

    def test_a_making_that_forgets_itself_fails(self):
        shelf = Shelf({"a": lambda shelf: shelf.forget("a")})
        self.assertEqual(self.fails("itself", shelf, "a").__cause__.why, "itself")
        self.assertEqual((shelf.made(), shelf.asked("a")), ([], []))


class TestBoth(ShelfCase):
    def test_the_functions_of_both_in_a_new_shelf(self):
        one = Shelf({"d": lambda shelf: shelf("a"), "b": raising([2])})
        other = Shelf({"c": lambda shelf: shelf, "a": lambda shelf: [1, shelf("b")]})
        one("b")
        both = one | other
        self.assertEqual((both.names(), len(both), both.made()), (["a", "b", "c", "d"], 4, []))
        self.assertEqual([both.makings(name) for name in both.names()], [0, 0, 0, 0])
        self.assertEqual(both("d"), [1, [2]])
        self.assertIs(both("c"), both)
        self.told(both, ["b", "a", "d", "c"], dict.fromkeys("abcd", 1), {"a": ["b"], "b": [], "c": [], "d": ["a"]})
        self.told(one, ["b"], {"b": 1, "d": 0}, {"b": [], "d": []})
        self.assertEqual((other.names(), other.made()), (["a", "c"], []))
        both.forget("b")
        self.assertEqual(one.made(), ["b"])

    def test_kept_as_in_the_first(self):
        for kept in (False, True):
            one = Shelf({"a": raising(Failing("a"), 1)}, kept=kept)
            other = Shelf({"b": raising(Failing("b"), 2)}, kept=not kept)
            both = one | other
            for name in ("a", "b"):
                self.fails(name, both, name)
            if kept:
                for name in ("a", "b"):
                    self.fails(name, both, name)
            else:
                self.assertEqual((both("a"), both("b")), (1, 2))

    def test_a_kept_failure_is_not_taken_over(self):
        one = Shelf({"a": raising(Failing("a"), 1)}, kept=True)
        self.fails("a", one, "a")
        self.assertEqual((one | Shelf({}))("a"), 1)
        self.fails("a", one, "a")

    def test_the_first_common_name_ascending(self):
        one = Shelf({"d": len, "c": len, "b": len, "a": len})
        other = Shelf({"e": len, "d": len, "b": len, "c": len})
        for left, right, name in ((one, other, "b"), (other, one, "b"), (one, one, "a"),
                                  (Shelf({"z": len}), Shelf({"y": len, "z": len}), "z")):
            with self.assertRaises(NoName) as caught:
                left | right
            self.assertEqual(caught.exception.name, name)
        self.assertEqual((one.names(), other.names()), (["a", "b", "c", "d"], ["b", "c", "d", "e"]))

    def test_with_an_empty_one(self):
        one = Shelf({"a": raising(1)})
        self.assertEqual(((one | Shelf({})).names(), (Shelf({}) | one)("a")), (["a"], 1))
        self.assertEqual((Shelf({}) | Shelf({})).names(), [])
        self.assertEqual(one.made(), [])


if __name__ == "__main__":
    unittest.main()
