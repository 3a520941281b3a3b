"""Late writes: the deeds of the writer and of readers with each look and all fences, state by state."""

import unittest

from firstmade.books import LateBook
from firstmade.rules import first_state, is_out, moves, step
from firstmade.settings import Setting
from tests.exploring import FENCES, come_to, late_books
from tests.walking import WalkCase

NOTHING = (False, False, False, False)
OUT = ("out", None)
WORDS = ("one", "two", "cell", "flag")


def memory_of(*words):
    return tuple(word in words for word in WORDS)


def setting_of(look="cell", *fences, hands=2):
    return Setting(LateBook(look=look, fences=fences), hands)


def wrote(*steps):
    """The moves of the writer, each word coming out of the store at once."""
    run = []
    for word in steps:
        run += [(0, "fence")] if word == "fence" else [(0, "write"), (0, word)]
    return run


class TestStart(WalkCase):
    def test_first_states_and_moves(self):
        for book in late_books():
            for hands in (2, 3, 4):
                setting = Setting(book, hands)
                state = first_state(setting)
                self.assertEqual(state, (0, (), NOTHING, (OUT,) * (hands - 1)))
                self.assertEqual(repr(state[2]), "(False, False, False, False)")
                deeds = ["look", "peek"] if book.look == "flag" and "reads" not in book.fences else ["look"]
                rows = [(hand, deed) for hand in range(1, hands) for deed in deeds]
                self.assertEqual(moves(setting, state), [(0, "write"), *rows])

    def test_other_numbers_do_not_matter(self):
        self.assertEqual(come_to(Setting(LateBook(), makes=6, fails=4)), come_to(Setting(LateBook())))


class TestWriter(WalkCase):
    def steps(self, fences):
        row = ["one", "two", "fence", "cell", "fence", "flag"]
        if "cell" not in fences:
            del row[4]
        if "parts" not in fences:
            del row[2]
        return row

    def test_steps(self):
        for fences in FENCES:
            for look in ("cell", "flag"):
                setting = setting_of(look, *fences)
                state = first_state(setting)
                written = []
                for at, word in enumerate(self.steps(fences)):
                    if word == "fence":
                        self.assertEqual(self.deeds(setting, state, 0), ["fence"])
                        state = step(setting, state, (0, "fence"))
                    else:
                        self.assertEqual(self.deeds(setting, state, 0), ["write"])
                        state = step(setting, state, (0, "write"))
                        self.assertEqual(state, (at + 1, (word,), memory_of(*written), (OUT,)))
                        written.append(word)
                        state = step(setting, state, (0, word))
                    self.assertEqual(state, (at + 1, (), memory_of(*written), (OUT,)))
                    self.assertEqual(repr(state[2]), repr(memory_of(*written)))
                self.assertEqual(self.deeds(setting, state, 0), [])
                self.assertEqual(state[0], len(self.steps(fences)))

    def test_the_store_without_fences(self):
        setting = setting_of()
        state = self.walk(setting, ((0, "write"), (1, ("one",), NOTHING, (OUT,))),
                          ((0, "write"), (2, ("one", "two"), NOTHING, (OUT,))),
                          ((0, "write"), (3, ("one", "two", "cell"), NOTHING, (OUT,))),
                          ((0, "write"), (4, WORDS, NOTHING, (OUT,))))
        self.assertEqual(moves(setting, state), [*[(0, word) for word in WORDS], (1, "look")])

    def test_write_comes_ahead_of_the_words(self):
        setting = setting_of()
        state = self.end_of(setting, (0, "write"), (0, "write"))
        self.assertEqual(self.deeds(setting, state, 0), ["write", "one", "two"])

    def test_words_come_out_in_any_order(self):
        setting = setting_of()
        state = self.walk(setting, ((0, "write"), (1, ("one",), NOTHING, (OUT,))),
                          ((0, "write"), (2, ("one", "two"), NOTHING, (OUT,))),
                          ((0, "write"), (3, ("one", "two", "cell"), NOTHING, (OUT,))),
                          ((0, "two"), (3, ("one", "cell"), memory_of("two"), (OUT,))),
                          ((0, "write"), (4, ("one", "cell", "flag"), memory_of("two"), (OUT,))),
                          ((0, "flag"), (4, ("one", "cell"), memory_of("two", "flag"), (OUT,))),
                          ((0, "cell"), (4, ("one",), memory_of("two", "cell", "flag"), (OUT,))),
                          ((0, "one"), (4, (), (True, True, True, True), (OUT,))))
        self.assertEqual(moves(setting, state), [(1, "look")])

    def test_a_fence_waits_for_an_empty_store(self):
        setting = setting_of("cell", "parts")
        state = self.walk(setting, ((0, "write"), (1, ("one",), NOTHING, (OUT,))),
                          ((0, "write"), (2, ("one", "two"), NOTHING, (OUT,))))
        self.assertEqual(self.deeds(setting, state, 0), ["one", "two"])
        state = step(setting, state, (0, "two"))
        self.assertEqual(self.deeds(setting, state, 0), ["one"])
        state = step(setting, state, (0, "one"))
        self.assertEqual(self.deeds(setting, state, 0), ["fence"])
        state = step(setting, state, (0, "fence"))
        self.assertEqual(state, (3, (), memory_of("one", "two"), (OUT,)))
        self.assertEqual(self.deeds(setting, state, 0), ["write"])

    def test_the_fence_behind_the_cell(self):
        setting = setting_of("cell", "cell")
        state = self.end_of(setting, *[(0, "write")] * 3)
        self.assertEqual(self.deeds(setting, state, 0), ["one", "two", "cell"])
        state = self.end_of(setting, *[(0, "write")] * 3, (0, "cell"), (0, "one"), (0, "two"))
        self.assertEqual(state, (3, (), memory_of("one", "two", "cell"), (OUT,)))
        self.assertEqual(self.deeds(setting, state, 0), ["fence"])
        state = step(setting, state, (0, "fence"))
        self.assertEqual(state, (4, (), memory_of("one", "two", "cell"), (OUT,)))
        self.assertEqual(self.deeds(setting, state, 0), ["write"])

    def test_the_writer_is_out_when_it_has_no_deeds(self):
        for book in late_books():
            setting = Setting(book)
            for state in come_to(setting):
                self.assertIs(is_out(setting, state, 0), self.deeds(setting, state, 0) == [])
        setting = setting_of()
        self.assertIs(is_out(setting, first_state(setting), 0), False)
        state = self.end_of(setting, *[(0, "write")] * 4, (0, "one"), (0, "two"), (0, "cell"))
        self.assertIs(is_out(setting, state, 0), False)
        self.assertIs(is_out(setting, step(setting, state, (0, "flag")), 0), True)


class TestReader(WalkCase):
    def test_look_at_what_is_not_there(self):
        for look in ("cell", "flag"):
            setting = setting_of(look, hands=3)
            others = [word for word in WORDS if word != look]
            state = self.end_of(setting, *[(0, "write")] * 4, *[(0, word) for word in others])
            self.assertEqual(step(setting, state, (2, "look")), state)

    def test_look_at_what_is_there(self):
        for look in ("cell", "flag"):
            setting = setting_of(look, hands=3)
            state = self.end_of(setting, *[(0, "write")] * 4, (0, look))
            state = step(setting, state, (2, "look"))
            self.assertEqual(state[-1], (OUT, ("have", None)))
            self.assertEqual(self.deeds(setting, state, 2), ["use", "end"])

    def test_peek(self):
        setting = setting_of("flag", hands=3)
        state = self.walk(setting, ((0, "write"), (1, ("one",), NOTHING, (OUT, OUT))),
                          ((0, "one"), (1, (), memory_of("one"), (OUT, OUT))),
                          ((1, "peek"), (1, (), memory_of("one"), (("peeked", memory_of("one")), OUT))))
        self.assertEqual(self.deeds(setting, state, 1), ["look"])
        self.assertEqual(self.deeds(setting, state, 2), ["look", "peek"])

    def test_only_some_books_peek(self):
        for book in late_books():
            peeks = book.look == "flag" and "reads" not in book.fences
            modes = {reader[0] for state in come_to(Setting(book)) for reader in state[-1]}
            self.assertEqual(modes, {"out", "have", "peeked"} if peeks else {"out", "have"})

    def test_a_look_behind_a_peek_that_finds_nothing(self):
        setting = setting_of("flag")
        state = self.end_of(setting, (1, "peek"), (0, "write"))
        self.assertEqual(step(setting, state, (1, "look")), (1, ("one",), NOTHING, (OUT,)))

    def test_a_look_behind_a_peek_that_finds_the_word(self):
        setting = setting_of("flag")
        state = self.end_of(setting, *wrote("one"), (1, "peek"), *wrote("two", "cell", "flag"))
        state = step(setting, state, (1, "look"))
        self.assertEqual(state, (4, (), (True, True, True, True), (("have", memory_of("one")),)))
        self.assertEqual(self.deeds(setting, state, 1), ["use", "end"])
        self.assertEqual(step(setting, state, (1, "end")), (4, (), (True, True, True, True), (OUT,)))
        self.is_last(setting, step(setting, state, (1, "use")), "half", 1, None)

    def test_use_goes_by_the_memory(self):
        for look in ("cell", "flag"):
            for left in WORDS:
                if left == look:
                    continue
                setting = setting_of(look, hands=3)
                words = [word for word in WORDS if word != left]
                state = self.end_of(setting, *[(0, "write")] * 4, *[(0, word) for word in words], (2, "look"))
                behind = step(setting, state, (2, "use"))
                if left == "flag":
                    self.assertEqual(behind, state)
                else:
                    self.is_last(setting, behind, "half", 2, None)
                    state = step(setting, state, (0, left))
                    self.assertEqual(step(setting, state, (2, "use")), state)

    def test_use_goes_by_the_view(self):
        for left in WORDS:
            setting = setting_of("flag", hands=3)
            words = [word for word in WORDS if word != left]
            state = self.end_of(setting, *[(0, "write")] * 4, *[(0, word) for word in words], (2, "peek"), (0, left),
                                (2, "look"))
            self.assertEqual(state, (4, (), (True, True, True, True), (OUT, ("have", memory_of(*words)))))
            behind = step(setting, state, (2, "use"))
            if left == "flag":
                self.assertEqual(behind, state)
            else:
                self.is_last(setting, behind, "half", 2, None)

    def test_end(self):
        setting = setting_of("cell", hands=3)
        state = self.end_of(setting, *wrote("one", "two", "cell"), (1, "look"), (2, "look"), (2, "use"))
        self.assertEqual(state[-1], (("have", None), ("have", None)))
        self.assertEqual(step(setting, state, (2, "end"))[-1], (("have", None), OUT))
        self.assertEqual(step(setting, state, (1, "end"))[-1], (OUT, ("have", None)))

    def test_a_reader_is_out_in_its_first_mode_alone(self):
        for book in late_books():
            setting = Setting(book, 3)
            for state in come_to(setting):
                for hand in (1, 2):
                    self.assertIs(is_out(setting, state, hand), state[-1][hand - 1] == OUT)


if __name__ == "__main__":
    unittest.main()
