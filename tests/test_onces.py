"""Onces: a value made at the first asking, kept, failing, forgotten."""

import unittest

from firstmade.errors import Failed, Failing, NoName
from firstmade.onces import Once


class Maker:
    """A function that returns or raises, in turn, what it was given; the last one again and again."""

    def __init__(self, *turns):
        self.turns = list(turns)
        self.calls = 0

    def __call__(self):
        turn = self.turns[min(self.calls, len(self.turns) - 1)]
        self.calls += 1
        if isinstance(turn, BaseException):
            raise turn
        return turn


class OnceCase(unittest.TestCase):
    def fails(self, why, call, *args):
        with self.assertRaises(Failed) as caught:
            call(*args)
        self.assertEqual(caught.exception.why, why)
        return caught.exception

    def told(self, once, begun, is_made):
        self.assertEqual(once.begun, begun)
        self.assertIs(once.is_made, is_made)


class TestMaking(OnceCase):
    def test_nothing_is_made_ahead_of_the_first_asking(self):
        make = Maker("value")
        self.told(Once(make), 0, False)
        self.assertEqual(make.calls, 0)

    def test_made_at_the_first_asking_and_kept(self):
        value = ["value"]
        make = Maker(value, "another")
        once = Once(make)
        for _ in range(3):
            self.assertIs(once(), value)
            self.told(once, 1, True)
        self.assertEqual(make.calls, 1)

    def test_any_value_is_kept(self):
        for value in (None, False, 0, "", [], (), {}, Failed, Failing, NotImplemented):
            make = Maker(value, "another")
            once = Once(make)
            self.assertIs(once(), value)
            self.assertIs(once(), value)
            self.told(once, 1, True)

    def test_an_error_that_is_returned_is_a_value(self):
        error = Failed("why")
        once = Once(lambda: error)
        self.assertIs(once(), error)
        self.assertIs(once(), error)

    def test_the_value_is_not_copied(self):
        once = Once(lambda: [1])
        once().append(2)
        self.assertEqual(once(), [1, 2])

    def test_arguments_by_name(self):
        once = Once(make=lambda: 5, kept=True)
        self.assertEqual(once(), 5)
        with self.assertRaises(TypeError):
            Once(lambda: 5, True)

    def test_two_onces_go_on_by_themselves(self):
        make = Maker("one", "two")
        first, second = Once(make), Once(make)
        self.assertEqual((second(), first(), second(), first()), ("one", "two", "one", "two"))
        self.assertIsInstance(first == second, bool)

    def test_while_it_is_made_it_is_not_there(self):
        seen = []
        once = Once(lambda: seen.append((once.begun, once.is_made)))
        once()
        self.assertEqual(seen, [(1, False)])
        self.told(once, 1, True)


class TestFailing(OnceCase):
    def test_failing_and_failed_are_raised_as_failed_from_what_was_raised(self):
        for kind in (Failing, Failed):
            for kept in (False, True):
                raised = kind("why")
                once = Once(Maker(raised), kept=kept)
                failed = self.fails("why", once)
                self.assertIsNot(failed, raised)
                self.assertIs(failed.__cause__, raised)
                self.told(once, 1, False)

    def test_the_why_is_the_same_whatever_it_is(self):
        for why in (None, False, 0, "", [1], {"a": 2}, object(), Failing("inner")):
            for kept in (False, True):
                once = Once(Maker(Failing(why)), kept=kept)
                for _ in range(2):
                    with self.assertRaises(Failed) as caught:
                        once()
                    self.assertIs(caught.exception.why, why)

    def test_the_next_asking_makes_anew(self):
        for kind in (Failing, Failed):
            make = Maker(kind("one"), kind("two"), "value", "another")
            once = Once(make)
            self.fails("one", once)
            self.told(once, 1, False)
            self.fails("two", once)
            self.told(once, 2, False)
            self.assertEqual((once(), once()), ("value", "value"))
            self.told(once, 3, True)
            self.assertEqual(make.calls, 3)

    def test_failures_are_not_kept_by_default(self):
        once = Once(Maker(Failing("why"), "value"))
        self.fails("why", once)
        self.assertEqual(once(), "value")

    def test_a_kept_failure_is_raised_again_without_making_and_from_nothing(self):
        for kind in (Failing, Failed):
            make = Maker(kind("one"), "value")
            once = Once(make, kept=True)
            first = self.fails("one", once)
            for _ in range(3):
                again = self.fails("one", once)
                self.assertIsNot(again, first)
                self.assertIsNone(again.__cause__)
                self.told(once, 1, False)
            self.assertEqual(make.calls, 1)

    def test_other_errors_pass_on_as_they_are(self):
        for error in (ValueError("x"), KeyError("x"), RuntimeError("x"), NoName("x"), StopIteration(),
                      TypeError("x"), KeyboardInterrupt(), SystemExit(3), GeneratorExit()):
            for kept in (False, True):
                make = Maker(error, "value")
                once = Once(make, kept=kept)
                with self.assertRaises(type(error)) as caught:
                    once()
                self.assertIs(caught.exception, error)
                self.assertIsNone(error.__cause__)
                self.told(once, 1, False)
                self.assertEqual(once(), "value")
                self.told(once, 2, True)

    def test_another_error_behind_a_failure(self):
        once = Once(Maker(Failing("one"), KeyError("two"), Failed("three"), 4))
        self.fails("one", once)
        self.assertRaises(KeyError, once)
        self.fails("three", once)
        self.assertEqual(once(), 4)
        self.told(once, 4, True)


class TestItself(OnceCase):
    def test_a_making_that_asks_for_itself_fails(self):
        once = Once(lambda: once())
        for begun in (1, 2):
            failed = self.fails("itself", once)
            inner = failed.__cause__
            self.assertIsInstance(inner, Failed)
            self.assertEqual(inner.why, "itself")
            self.told(once, begun, False)

    def test_this_failure_is_kept_as_others_are(self):
        once = Once(lambda: once(), kept=True)
        self.assertIsNotNone(self.fails("itself", once).__cause__)
        self.assertIsNone(self.fails("itself", once).__cause__)
        self.told(once, 1, False)

    def test_going_on_behind_it(self):
        for kept in (False, True):
            seen = []

            def make():
                for _ in range(2):
                    seen.append(self.fails("itself", once))
                    self.told(once, 1, False)
                return "value"

            once = Once(make, kept=kept)
            self.assertEqual((once(), once()), ("value", "value"))
            self.told(once, 1, True)
            self.assertEqual([error.__cause__ for error in seen], [None, None])

    def test_through_another_once(self):
        one = Once(lambda: two() + 1)
        two = Once(lambda: one() + 1)
        failed = self.fails("itself", one)
        self.assertEqual((failed.__cause__.why, failed.__cause__.__cause__.why), ("itself", "itself"))
        self.told(one, 1, False)
        self.told(two, 1, False)
        self.fails("itself", two)
        self.told(one, 2, False)
        self.told(two, 2, False)

    def test_through_another_once_that_keeps_the_failure(self):
        one = Once(lambda: two() + 1)
        two = Once(lambda: one() + 1, kept=True)
        self.fails("itself", one)
        self.fails("itself", two)
        self.told(one, 1, False)
        self.told(two, 1, False)

    def test_through_another_once_that_goes_on(self):
        def make_two():
            self.fails("itself", one)
            return 2

        one = Once(lambda: two() + 1)
        two = Once(make_two)
        self.assertEqual((one(), two()), (3, 2))
        self.told(one, 1, True)
        self.told(two, 1, True)


class TestForgetting(OnceCase):
    def test_the_value_is_gone(self):
        once = Once(Maker("one", "two"))
        self.assertEqual(once(), "one")
        self.assertIsNone(once.forget())
        self.told(once, 1, False)
        self.assertEqual((once(), once()), ("two", "two"))
        self.told(once, 2, True)

    def test_nothing_to_forget(self):
        once = Once(Maker("one"))
        self.assertIsNone(once.forget())
        self.assertIsNone(once.forget())
        self.told(once, 0, False)
        self.assertEqual(once(), "one")

    def test_a_kept_failure_is_gone(self):
        once = Once(Maker(Failing("one"), Failing("two"), "value"), kept=True)
        self.fails("one", once)
        self.assertIsNone(once.forget())
        self.told(once, 1, False)
        self.assertIsNotNone(self.fails("two", once).__cause__)
        self.assertIsNone(self.fails("two", once).__cause__)
        once.forget()
        self.assertEqual(once(), "value")
        self.told(once, 3, True)

    def test_a_failure_behind_a_forgotten_value(self):
        once = Once(Maker("one", Failing("two"), "three"), kept=True)
        once()
        once.forget()
        self.fails("two", once)
        self.told(once, 2, False)
        self.fails("two", once)
        self.told(once, 2, False)

    def test_not_while_it_is_being_made(self):
        def make():
            self.fails("itself", once.forget)
            self.told(once, 1, False)
            self.fails("itself", once)
            return "value"

        once = Once(make)
        self.assertEqual((once(), once()), ("value", "value"))
        self.told(once, 1, True)

    def test_a_making_that_forgets_itself_fails(self):
        once = Once(lambda: once.forget())
        self.assertEqual(self.fails("itself", once).__cause__.why, "itself")
        self.told(once, 1, False)
        self.assertIsNone(once.forget())


if __name__ == "__main__":
    unittest.main()
