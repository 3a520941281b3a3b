"""Notes: books, settings and runs, written and read again, and what is not written so."""

import unittest

from firstmade.benches import Bench
from firstmade.books import Book, FirstBook, LateBook, NetBook, WakingBook
from firstmade.breaking import breaking
from firstmade.errors import MadeError, NoBook, NoMove, NoNote, NoSetting
from firstmade.nets import Net
from firstmade.notes import read_book, read_run, read_setting, write_book, write_run, write_setting
from firstmade.settings import Setting
from firstmade.verdicts import faults
from tests.exploring import first_books, late_books, net_books, waking_books
from tests.odd_values import odd_values
from tests.samples import NO_BOOKS, NO_SETTINGS, RING

LARGE = NetBook(Net({"a": ("b", "c", "d", "e"), "b": (), "c": ("e", "b"), "d": ("a",), "e": ("e",)}), guard="one")
NAMES = NetBook(Net({"z": ("abcdefgh", "b"), "abcdefgh": (), "b": ("z",)}))
BOOKS = first_books() + waking_books() + late_books() + net_books("a") + net_books("ab") + [LARGE, NAMES]
FIRST, WAKING, LATE, NET = ("first cell lock cell parts+cell+flag\n", "waking again sleep all\n", "late cell parts\n",
                            "net own x=y y=x,z z=\n")
NO_TEXTS = [value for value in odd_values() if not isinstance(value, str)] + [FIRST.encode(), [FIRST], (FIRST,)]
# Texts of which no row is a book's, near and far from one.
NO_BOOK_ROWS = [
    "", " ", "first", "First cell lock cell parts+cell+flag", "first cell lock cell",
    "cell lock cell parts+cell+flag", "first cell lock cell parts+cell+flag x",
    "first cell lock cell parts+cell+flag ", "first  cell lock cell parts+cell+flag",
    " first cell lock cell parts+cell+flag", "first cell lock cell parts cell flag",
    "first cell lock cell parts+cell", "first cell lock cell parts+cell+cell",
    "first cell lock cell parts+cell+flag+", "first cell lock cell +parts+cell+flag",
    "first cell lock cell parts++cell+flag", "first cell lock cell -", "first lock cell cell parts+cell+flag",
    "first cell none cells parts+cell+flag", "first cell lock cell PARTS+cell+flag",
    "first cell lock cell parts,cell,flag", "waking", "waking again sleep", "waking again sleep all all",
    "waking sleep again all", "waking again sleep every", "waking again  sleep all", "waking again sleep all -",
    "late", "late cell", "late none -", "late cell - -", "late cell ", "late cell cell+parts",
    "late cell parts+parts", "late cell +", "late cell parts+", "late cell --", "late flag flag",
    "late cell parts cell", "late cell parts,cell", "net", "net own", "net two x=", "net x= own", "net own x",
    "net own =", "net own x=y", "net own x==", "net own x=x=", "net own x=,", "net own x=x,", "net own x=,x",
    "net own x=x,x", "net own X=", "net own x1=", "net own abcdefghi=", "net own y= x=", "net own x= x=",
    "net own x=  y=", "net own x= y=x ", "net own x=y= y=", "net own a= b= c= d= e= f=", "net own x=y;z y= z=",
    "net own x =", "net own x= y=x, z=", "nets own x=", "-", "hands 2 2 1", "0 look", "none",
]
NO_HANDS_ROWS = [
    "", " ", "hands", "hands 2 2", "hands 2 2 1 1", "hands 2 2 1 ", " hands 2 2 1", "hands  2 2 1",
    "hands 2  2 1", "Hands 2 2 1", "hand 2 2 1", "2 2 1", "hands 0 2 1", "hands 5 2 1", "hands 2 0 1",
    "hands 2 7 1", "hands 2 2 5", "hands 2 2 -1", "hands +2 2 1", "hands 02 2 1", "hands 2 02 1",
    "hands 10 2 1", "hands 2 2 01", "hands x 2 1", "hands 2 y 1", "hands 2 2 z", "hands 2 2 1.",
    "hands 2.0 2 1", "hands two 2 1", "hands -2 2 1", "hands - 2 1", FIRST[:-1], "0 look",
]
NO_RUN_ROWS = [
    "", " ", "look", "0", "0 ", " look", "0  look", " 0 look", "0 look ", "0 look 1", "4 look", "9 look",
    "00 look", "01 look", "10 look", "-1 look", "+0 look", "x look", "0 Look", "0 look1", "0 abcdefghi", "0 -",
    "look 0", "0 a_b", "0.0 look", "0,look", "0 lo-ok", "(0, 'look')",
]


class NoteCase(unittest.TestCase):
    def no_note(self, call, text, line):
        with self.assertRaises(NoNote) as caught:
            call(text)
        self.assertEqual(caught.exception.line, line)

    def raises(self, error, word, value, call, *args):
        with self.assertRaises(error) as caught:
            call(*args)
        self.assertIs(getattr(caught.exception, word), value)


class TestBooks(NoteCase):
    def test_some_notes(self):
        for book, note in (
                (FirstBook(), FIRST), (WakingBook(), WAKING), (LateBook(), LATE),
                (NetBook(Net({"x": ("y",), "y": ("x", "z"), "z": ()})), NET),
                (FirstBook(look="none", guard="swap", again="never", writing="flag parts cell"),
                 "first none swap never flag+parts+cell\n"),
                (WakingBook(failure="left", wait="doze", wake="none"), "waking left doze none\n"),
                (LateBook(look="flag", fences=()), "late flag -\n"),
                (LateBook(fences=("parts", "cell", "reads")), "late cell parts+cell+reads\n"),
                (NetBook(Net({"a": ()}), guard="one"), "net one a=\n"),
                (LARGE, "net one a=b,c,d,e b= c=e,b d=a e=e\n"), (NAMES, "net own abcdefgh= b=z z=abcdefgh,b\n")):
            self.assertEqual(write_book(book), note)
            self.assertEqual(read_book(note), book)

    def test_every_book_written_and_read_again(self):
        notes = {}
        for book in BOOKS:
            note = write_book(book)
            again = read_book(note)
            self.assertIs(type(again), type(book))
            self.assertEqual(again, book)
            self.assertEqual(again.switches(), book.switches())
            self.assertEqual(write_book(again), note)
            notes[note] = True
        self.assertEqual(len(notes), len(BOOKS))

    def test_no_book(self):
        for value in NO_BOOKS + [Book(), FIRST]:
            self.raises(NoBook, "value", value, write_book, value)

    def test_rows_that_are_not_written_so(self):
        for row in NO_BOOK_ROWS:
            self.no_note(read_book, row + "\n", 1)
            for more in (FIRST, "\n", "x\n"):
                self.no_note(read_book, row + "\n" + more, 1)
        self.no_note(read_book, "\n", 1)
        self.no_note(read_book, "\n" + FIRST, 1)

    def test_missing_and_too_many(self):
        self.no_note(read_book, "", 1)
        for note in (FIRST, WAKING, LATE, NET):
            for more in (FIRST, "\n", "\n\n", "hands 2 2 1\n", note):
                self.no_note(read_book, note + more, 2)

    def test_each_switch_with_other_words(self):
        for note in (FIRST, WAKING, LATE, "net own x=\n"):
            words = note[:-1].split(" ")
            for at in range(len(words)):
                for word in ("", "any", words[at].upper(), words[at] + "+", "+" + words[at], words[at][1:], "0"):
                    self.no_note(read_book, " ".join([*words[:at], word, *words[at + 1:]]) + "\n", 1)
                self.no_note(read_book, " ".join(words[:at] + words[at + 1:]) + "\n", 1)
                self.no_note(read_book, " ".join(words[:at] + ["x"] + words[at:]) + "\n", 1)

    def test_each_sign_left_out_or_doubled(self):
        """Whatever is read is written just so."""
        read = 0
        for note in (FIRST, WAKING, LATE, NET, "late flag parts+cell+reads\n", write_book(LARGE)):
            for at in range(len(note)):
                for text in (note[:at] + note[at + 1:], note[:at] + note[at] + note[at:], note[:at] + " " + note[at:],
                             note[:at] + "=" + note[at:], note[:at] + "," + note[at:]):
                    try:
                        book = read_book(text)
                    except NoNote as error:
                        self.assertIn(error.line, (None, 1, 2))
                    else:
                        self.assertEqual(write_book(book), text)
                        read += 1
        self.assertGreater(read, 0)


class TestSettings(NoteCase):
    def test_some_notes(self):
        setting = Setting(WakingBook(wake="none"), 4, makes=6, fails=0)
        self.assertEqual(write_setting(setting), "waking again sleep none\nhands 4 6 0\n")
        self.assertEqual(read_setting("waking again sleep none\nhands 4 6 0\n"), setting)
        self.assertEqual(write_setting(Setting(FirstBook())), FIRST + "hands 2 2 1\n")

    def test_every_setting_written_and_read_again(self):
        for book in BOOKS[::9] + [FirstBook(), WakingBook(), LateBook(), RING, LARGE]:
            for hands in range(2 if book.way == "late" else 1, 5):
                for makes, fails in ((1, 0), (2, 1), (6, 4), (3, 3)):
                    setting = Setting(book, hands, makes=makes, fails=fails)
                    note = write_setting(setting)
                    self.assertEqual(note, write_book(book) + f"hands {hands} {makes} {fails}\n")
                    self.assertEqual(read_setting(note), setting)
                    self.assertEqual(write_setting(read_setting(note)), note)

    def test_no_setting(self):
        for value in NO_SETTINGS:
            self.raises(NoSetting, "word", None, write_setting, value)

    def test_rows_that_are_not_written_so(self):
        for row in NO_BOOK_ROWS:
            for more in ("", "hands 2 2 1\n", "hands 9 9 9\n", FIRST, "hands 2 2 1\n\n"):
                self.no_note(read_setting, row + "\n" + more, 1)
        for note in (FIRST, WAKING, LATE, NET):
            for row in NO_HANDS_ROWS:
                for more in ("", "\n", "hands 2 2 1\n"):
                    self.no_note(read_setting, note + row + "\n" + more, 2)

    def test_missing_and_too_many(self):
        self.no_note(read_setting, "", 1)
        for note in (FIRST, WAKING, LATE, NET):
            self.no_note(read_setting, note, 2)
            for more in ("\n", "hands 2 2 1\n", "0 look\n", note):
                self.no_note(read_setting, note + "hands 2 2 1\n" + more, 3)

    def test_late_books_have_two_hands(self):
        self.no_note(read_setting, LATE + "hands 1 2 1\n", 2)
        self.assertEqual(read_setting(WAKING + "hands 1 2 1\n"), Setting(WakingBook(), 1))


class TestRuns(NoteCase):
    def test_some_notes(self):
        run = [(0, "look"), (3, "abcdefgh"), (1, "a")]
        self.assertEqual(write_run(run), "0 look\n3 abcdefgh\n1 a\n")
        self.assertEqual(write_run(tuple(run)), "0 look\n3 abcdefgh\n1 a\n")
        self.assertEqual(read_run("0 look\n3 abcdefgh\n1 a\n"), run)

    def test_the_empty_run(self):
        self.assertEqual((write_run([]), write_run(()), read_run("")), ("", "", []))

    def test_runs_written_and_read_again(self):
        for book in first_books()[::6] + waking_books() + late_books() + net_books("ab"):
            for word in faults(book):
                _, run = breaking(book, word)
                for told in (run, tuple(run), run[::-1]):
                    note = write_run(told)
                    again = read_run(note)
                    self.assertIs(type(again), list)
                    self.assertEqual(again, list(told))
                    self.assertTrue(all(type(move) is tuple and type(move[0]) is int for move in again))
                    self.assertEqual(write_run(again), note)

    def test_moves_that_are_not_possible(self):
        run = [(3, "no"), (0, "never"), (2, "used")] * 5
        self.assertEqual(read_run(write_run(run)), run)

    def test_no_list_or_tuple(self):
        move = (0, "look")
        for value in odd_values() + ["0 look\n", {move: 1}, iter([move]), Bench(Setting(FirstBook())), {move}]:
            if not isinstance(value, (list, tuple)):
                self.raises(NoMove, "index", None, write_run, value)

    def test_items_that_cannot_be_written(self):
        wrong = odd_values() + [
            [0, "look"], (0,), (0, "look", 1), ("look", 0), (4, "look"), (-1, "look"), (True, "look"), (False, "look"),
            (1.0, "look"), ("1", "look"), (None, "look"), (10 ** 50, "look"), (0, "Look"), (0, ""), (0, "look "),
            (0, "a b"), (0, "abcdefghi"), (0, "a1"), (0, b"look"), (0, None), (0, ["look"]), (0, 1), (0, "-"),
            (0, "look\n"), "0 look"]
        for value in wrong:
            for at in range(3):
                ahead = [(0, "look"), (3, "no")][:at]
                for run in ([*ahead, value], (*ahead, value, (0, "look")), [*ahead, value, None]):
                    with self.assertRaises(NoMove) as caught:
                        write_run(run)
                    self.assertEqual(caught.exception.index, at)
                    self.assertIs(type(caught.exception.index), int)

    def test_rows_that_are_not_written_so(self):
        for row in NO_RUN_ROWS:
            for ahead in ([], ["0 look"], ["3 a", "1 b"]):
                for behind in ([], ["0 look"], ["x"]):
                    text = "".join([line + "\n" for line in [*ahead, row, *behind]])
                    self.no_note(read_run, text, len(ahead) + 1)
        self.no_note(read_run, "\n", 1)
        self.no_note(read_run, "0 look\n\n", 2)


class TestTexts(NoteCase):
    def test_what_is_no_text(self):
        for call in (read_book, read_setting, read_run):
            for value in NO_TEXTS:
                self.no_note(call, value, None)

    def test_no_line_feed_at_the_end(self):
        """This is told ahead of all rows."""
        for call in (read_book, read_setting, read_run):
            for text in (FIRST[:-1], FIRST + "hands 2 2 1", "0 look", "x", " ", "\n ", "\n\nx", "x\ny",
                         FIRST + FIRST[:-1], "0 look\n1 look"):
                self.no_note(call, text, None)

    def test_the_empty_text(self):
        self.no_note(read_book, "", 1)
        self.no_note(read_setting, "", 1)
        self.assertEqual(read_run(""), [])

    def test_names_of_arguments(self):
        self.assertEqual(write_book(book=FirstBook()), FIRST)
        self.assertEqual(write_setting(setting=Setting(LateBook())), LATE + "hands 2 2 1\n")
        self.assertEqual(write_run(run=[(0, "a")]), "0 a\n")
        self.assertEqual(read_book(text=FIRST), FirstBook())
        self.assertEqual(read_setting(text=LATE + "hands 2 2 1\n"), Setting(LateBook()))
        self.assertEqual(read_run(text="0 a\n"), [(0, "a")])

    def test_errors_are_made_errors(self):
        for call in (write_book, write_setting, write_run, read_book, read_setting, read_run):
            with self.assertRaises(MadeError):
                call(None)

    def test_what_was_returned_can_be_changed(self):
        book = read_book(FIRST)
        book.guard = "none"
        self.assertEqual(read_book(FIRST), FirstBook())
        run = read_run("0 a\n")
        run.clear()
        self.assertEqual(read_run("0 a\n"), [(0, "a")])
        book = WakingBook()
        note = write_book(book)
        book.wake = "none"
        self.assertEqual(note, WAKING)


if __name__ == "__main__":
    unittest.main()
