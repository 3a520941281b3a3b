"""Papers: what is written of books and settings, and which papers are accepted."""

import unittest

from firstmade.benches import play
from firstmade.books import FirstBook, LateBook, NetBook, WakingBook
from firstmade.breaking import breaking
from firstmade.errors import MadeError, NoBook, NoNumber, NoSetting, NoTable, TooMany
from firstmade.nets import Net
from firstmade.notes import read_run, read_setting, write_book, write_run, write_setting
from firstmade.papers import accepts, closed_paper, paper_of
from firstmade.searches import all_states, shortest
from firstmade.settings import Setting
from firstmade.tables import Table
from firstmade.verdicts import faults, is_right
from tests.exploring import first_books, late_books, net_books, waking_books
from tests.odd_values import Alike, Touchy, odd_values
from tests.samples import NO_BOOKS, NO_NUMBERS, NO_SETTINGS, RIGHT_NET, RING, SETTINGS, WIDE_NET
from tests.test_notes import NO_BOOK_ROWS, NO_HANDS_ROWS, NO_RUN_ROWS, NO_TEXTS

BOOKS = first_books() + waking_books() + late_books() + net_books("a") + net_books("ab")
RIGHT = [FirstBook(), WakingBook(), LateBook(), RIGHT_NET]
WRONG = [FirstBook.bare(), FirstBook(guard="none", writing="cell parts flag"), WakingBook(failure="left"),
         WakingBook(wake="one"), LateBook(fences=()), RING]
CLOSED = [setting for setting in SETTINGS if shortest(setting) is None]


class PaperCase(unittest.TestCase):
    def accepted(self, paper):
        self.assertIs(accepts(paper), True)

    def refused(self, paper):
        self.assertIs(accepts(paper), False)


class TestPaperOf(PaperCase):
    def test_every_book(self):
        for book in BOOKS:
            paper = paper_of(book)
            self.assertIs(type(paper), tuple)
            if is_right(book):
                self.assertEqual(paper, ("right", write_book(book)))
            else:
                word = faults(book)[0]
                setting, run = breaking(book, word)
                self.assertEqual(paper, ("fault", write_setting(setting), write_run(run), word))
            self.accepted(paper)

    def test_larger_nets(self):
        net = Net({"a": ("b", "c", "d", "e"), "b": ("c",), "c": ("d", "e"), "d": ("e",), "e": ()})
        self.assertEqual(paper_of(NetBook(net)), ("right", "net own a=b,c,d,e b=c c=d,e d=e e=\n"))
        paper = paper_of(NetBook(Net({**{name: net[name] for name in net}, "e": ("b",)}), guard="one"))
        self.assertEqual((paper[0], paper[3]), ("fault", "itself"))
        self.accepted(paper)

    def test_some_papers(self):
        self.assertEqual(paper_of(FirstBook()), ("right", "first cell lock cell parts+cell+flag\n"))
        self.assertEqual(paper_of(WakingBook(wake="none")), (
            "fault", "waking again sleep none\nhands 3 2 1\n", "0 claim\n1 claim\n1 sleep\n", "stuck"))
        self.assertEqual(paper_of(NetBook(Net({"a": ("a",)}))), (
            "fault", "net own a=a\nhands 1 2 1\n", "0 a\n0 own\n0 need\n0 ask\n", "itself"))

    def test_no_book(self):
        for value in NO_BOOKS:
            with self.assertRaises(NoBook) as caught:
                paper_of(value)
            self.assertIs(caught.exception.value, value)


class TestClosedPaper(PaperCase):
    def test_small_settings(self):
        for setting in CLOSED:
            paper = closed_paper(setting)
            self.assertIs(type(paper), tuple)
            self.assertEqual(paper, ("closed", write_setting(setting), all_states(setting)))
            self.accepted(paper)
            self.accepted(("closed", paper[1], tuple(paper[2][::-1])))

    def test_a_fault_can_be_come_to(self):
        many = 0
        for book in first_books()[::9] + late_books() + [RING]:
            setting = Setting(book)
            if is_right(book):
                self.accepted(closed_paper(setting))
                continue
            many += 1
            with self.assertRaises(NoTable) as caught:
                closed_paper(setting)
            self.assertIsNone(caught.exception.states)
            self.refused(("closed", write_setting(setting), all_states(setting)))
        self.assertGreater(many, 20)

    def test_stuck_is_no_state(self):
        self.accepted(closed_paper(Setting(WakingBook(wake="none"))))
        self.accepted(closed_paper(Setting(WakingBook(failure="left"), 3)))

    def test_a_wrong_book_of_which_a_setting_comes_to_no_fault(self):
        self.accepted(closed_paper(Setting(FirstBook.bare(), 1)))
        self.accepted(closed_paper(Setting(FirstBook.bare(), 2, makes=1)))

    def test_too_many_ahead_of_no_table(self):
        for setting in (Setting(FirstBook()), Setting(FirstBook.bare()), Setting(RING)):
            many = len(all_states(setting))
            for most in (1, many - 1):
                with self.assertRaises(TooMany) as caught:
                    closed_paper(setting, most=most)
                self.assertEqual(caught.exception.most, most)
        self.assertEqual(closed_paper(Setting(FirstBook()), most=len(all_states(Setting(FirstBook())))),
                         closed_paper(setting=Setting(FirstBook())))
        with self.assertRaises(NoTable):
            closed_paper(Setting(FirstBook.bare()), most=len(all_states(Setting(FirstBook.bare()))))
        with self.assertRaises(TooMany) as caught:
            closed_paper(Setting(WakingBook(wake="one"), 4, fails=4))
        self.assertEqual(caught.exception.most, 2000)

    def test_no_setting_then_no_number(self):
        for value in NO_SETTINGS:
            for most in (2000, 0, None, Touchy()):
                with self.assertRaises(NoSetting) as caught:
                    closed_paper(value, most=most)
                self.assertIsNone(caught.exception.word)
        for most in NO_NUMBERS:
            for setting in (Setting(FirstBook()), Setting(FirstBook.bare())):
                with self.assertRaises(NoNumber) as caught:
                    closed_paper(setting, most=most)
                self.assertIs(caught.exception.value, most)
        with self.assertRaises(TypeError):
            closed_paper(Setting(FirstBook()), 2000)

    def test_errors_are_made_errors(self):
        for call in (lambda: paper_of(None), lambda: closed_paper(None),
                     lambda: closed_paper(Setting(FirstBook.bare()))):
            with self.assertRaises(MadeError):
                call()

    def test_a_paper_that_was_returned_can_be_changed(self):
        setting = Setting(FirstBook())
        paper = closed_paper(setting)
        paper[2].clear()
        self.refused(paper)
        self.accepted(closed_paper(setting))


class TestRight(PaperCase):
    def test_just_if_the_book_is(self):
        for book in BOOKS:
            self.assertIs(accepts(("right", write_book(book))), is_right(book))

    def test_spoilt_notes(self):
        for row in NO_BOOK_ROWS:
            self.refused(("right", row + "\n"))
        for book in RIGHT:
            note = write_book(book)
            for text in (note[:-1], note + note, note + "\n", " " + note, note + "hands 2 2 1\n", "", note.upper()):
                self.refused(("right", text))
        for value in NO_TEXTS + [FirstBook()]:
            self.refused(("right", value))


class TestFault(PaperCase):
    def papers(self):
        for book in WRONG:
            for word in faults(book):
                setting, run = breaking(book, word)
                yield setting, run, word

    def test_each_fault(self):
        for setting, run, word in self.papers():
            self.accepted(("fault", write_setting(setting), write_run(run), word))

    def test_cut_runs_and_other_runs(self):
        for setting, run, word in self.papers():
            note = write_setting(setting)
            for other in ([], run[1:], run[::-1], [*run, (0, "no")], run + run):
                self.refused(("fault", note, write_run(other), word))
            if word != "stuck":
                self.refused(("fault", note, write_run(run[:-1]), word))

    def test_other_words(self):
        for setting, run, word in self.papers():
            for value in ["half", "twice", "itself", "stuck", "any", "", word.upper(), (word,), [word], *odd_values()]:
                if not (isinstance(value, str) and value == word):
                    self.refused(("fault", write_setting(setting), write_run(run), value))

    def test_other_settings(self):
        for setting, run, word in self.papers():
            for book in RIGHT:
                self.refused(("fault", write_setting(Setting(book, 3)), write_run(run), word))

    def test_spoilt_notes(self):
        for setting, run, word in self.papers():
            note, moved = write_setting(setting), write_run(run)
            for text in (note[:-1], note + "\n", "", write_book(setting.book()), note + note, moved, " " + note):
                self.refused(("fault", text, moved, word))
            for text in (moved[:-1], moved + "\n", "\n" + moved, " " + moved, note, moved.upper()):
                self.refused(("fault", note, text, word))
            for value in NO_TEXTS + [setting, run]:
                self.refused(("fault", value, moved, word))
                self.refused(("fault", note, value, word))
            for row in NO_BOOK_ROWS:
                self.refused(("fault", row + "\nhands 2 2 1\n", moved, word))
            for row in NO_HANDS_ROWS:
                self.refused(("fault", write_book(setting.book()) + row + "\n", moved, word))
            for row in NO_RUN_ROWS:
                self.refused(("fault", note, moved + row + "\n", word))

    def test_a_longer_run_to_the_fault(self):
        note = write_setting(Setting(NetBook(Net({"a": ("a",), "b": ()})), 1))
        self.accepted(("fault", note, "0 b\n0 own\n0 make\n0 a\n0 own\n0 need\n0 ask\n", "itself"))

    def test_too_many(self):
        note = write_setting(Setting(NetBook(WIDE_NET), 4))
        with self.assertRaises(TooMany) as caught:
            accepts(("fault", note, "3 a\n", "stuck"))
        self.assertEqual(caught.exception.most, 20000)
        self.refused(("fault", note, "3 a\n", "itself"))
        self.refused(("fault", note, "3 b\n4 a\n", "stuck"))


class TestClosed(PaperCase):
    def test_states_left_out(self):
        for setting in CLOSED:
            note, rows = write_setting(setting), all_states(setting)
            for at in range(0, len(rows), 1 + len(rows) // 15):
                self.refused(("closed", note, rows[:at] + rows[at + 1:]))
            self.refused(("closed", note, []))

    def test_junk_states(self):
        for setting in CLOSED:
            note, rows = write_setting(setting), all_states(setting)
            self.accepted(("closed", note, [(), ("junk", (0,)), *rows, ("half", 0, None), rows[0]]))
            for junk in (1, "x", [], None, ({},), (1.0,), (b"x",), Alike(), (Touchy(),)):
                self.refused(("closed", note, [*rows, junk]))

    def test_states_that_are_none(self):
        for setting in CLOSED[:5]:
            note, rows = write_setting(setting), all_states(setting)
            for value in [*odd_values(), Table(rows), dict.fromkeys(rows), iter(rows), note]:
                self.refused(("closed", note, value))

    def test_other_settings(self):
        for setting in CLOSED:
            rows = all_states(setting)
            for other in (Setting(LateBook(fences=()), 4), Setting(WakingBook(), 4, fails=4), Setting(RING, 4)):
                self.refused(("closed", write_setting(other), rows))

    def test_spoilt_notes(self):
        setting = Setting(WakingBook())
        note, rows = write_setting(setting), all_states(setting)
        for text in (note[:-1], note + "\n", "", write_book(setting.book()), note + note, " " + note, note.upper()):
            self.refused(("closed", text, rows))
        for value in NO_TEXTS + [setting]:
            self.refused(("closed", value, rows))
        for row in NO_HANDS_ROWS:
            self.refused(("closed", write_book(setting.book()) + row + "\n", rows))


class TestAnyValue(PaperCase):
    def papers(self):
        return [paper_of(FirstBook()), paper_of(FirstBook.bare()), paper_of(WakingBook(wake="none")),
                closed_paper(Setting(WakingBook()))]

    def test_what_is_no_paper(self):
        for value in odd_values() + ["right", ("right",), ("fault",), ("closed",), ((),), (("right",),), (None, None),
                                     FirstBook(), Setting(FirstBook()), play(Setting(FirstBook()), []), {"right": "x"}]:
            self.refused(value)
        for paper in self.papers():
            self.accepted(paper)
            for value in (list(paper), dict(enumerate(paper)), iter(paper), (paper,), [paper], str(paper)):
                self.refused(value)

    def test_parts_missing_and_too_many(self):
        for paper in self.papers():
            for many in range(len(paper)):
                self.refused(paper[:many])
                self.refused(paper[:many] + paper[many + 1:])
            for more in ("", None, paper[-1], paper[0]):
                self.refused((*paper, more))
                self.refused((more, *paper))

    def test_another_kind(self):
        kinds = ["right", "fault", "closed", "wrong", "Right", "right ", "", None, b"right", ["right"], ("right",),
                 Alike(), Touchy(), 0, True]
        for paper in self.papers():
            for kind in kinds:
                if not (isinstance(kind, str) and kind == paper[0]):
                    self.refused((kind, *paper[1:]))

    def test_each_part_of_another_kind(self):
        for paper in self.papers():
            for at in range(len(paper)):
                for value in odd_values():
                    self.refused((*paper[:at], value, *paper[at + 1:]))

    def test_accepted_papers_are_true(self):
        for paper in self.papers():
            if paper[0] == "fault":
                setting, run = read_setting(paper[1]), read_run(paper[2])
                self.assertTrue(play(setting, run).fault or paper[3] == "stuck")

    def test_names_of_arguments(self):
        self.assertEqual(paper_of(book=FirstBook()), paper_of(FirstBook()))
        self.assertIs(accepts(paper=paper_of(FirstBook())), True)
        self.assertEqual(closed_paper(most=500, setting=Setting(FirstBook())), closed_paper(Setting(FirstBook())))


if __name__ == "__main__":
    unittest.main()
