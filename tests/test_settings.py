"""Settings: books of each kind, numbers at their bounds and beyond, and what a setting keeps."""

import unittest

from firstmade.books import Book, FirstBook, LateBook, NetBook, WakingBook
from firstmade.errors import NoBook, NoSetting
from firstmade.nets import Net
from firstmade.settings import Setting
from tests.odd_values import Alike, Touchy, odd_values

NET = Net({"a": ("b",), "b": ()})
BOOKS = [FirstBook(), FirstBook.bare(), WakingBook(), WakingBook(wake="none"), LateBook(), LateBook(fences=()),
         NetBook(NET), NetBook(NET, guard="one")]
BOUNDS = {"hands": (1, 4), "makes": (1, 6), "fails": (0, 4)}
NO_NUMBERS = [value for value in odd_values() if not (isinstance(value, int) and not isinstance(value, bool))]
NO_NUMBERS += [2.0, "2", b"2", [2], (2,), {2: 2}, range(1, 3), 2 + 0j]


class SettingCase(unittest.TestCase):
    def no_setting(self, word, *args, **more):
        with self.assertRaises(NoSetting) as caught:
            Setting(*args, **more)
        self.assertEqual(caught.exception.word, word)

    def no_book(self, value, *args, **more):
        with self.assertRaises(NoBook) as caught:
            Setting(value, *args, **more)
        self.assertIs(caught.exception.value, value)


class TestNumbers(SettingCase):
    def test_as_born(self):
        for book in BOOKS:
            setting = Setting(book)
            self.assertEqual((setting.hands, setting.makes, setting.fails), (2, 2, 1))
            self.assertEqual(setting.book(), book)

    def test_at_and_within_the_bounds(self):
        for book in BOOKS:
            for hands in range(2 if book.way == "late" else 1, 5):
                self.assertEqual(Setting(book, hands).hands, hands)
            for makes in range(1, 7):
                self.assertEqual(Setting(book, makes=makes).makes, makes)
            for fails in range(5):
                self.assertEqual(Setting(book, fails=fails).fails, fails)

    def test_beyond_the_bounds(self):
        for book in BOOKS:
            for word, (least, most) in BOUNDS.items():
                for number in (least - 1, most + 1, least - 10, most + 10, -1, -2, 10 ** 50, -10 ** 50):
                    self.no_setting(word, book, **{word: number})

    def test_late_books_need_two_hands(self):
        for book in BOOKS:
            if book.way == "late":
                self.no_setting("hands", book, 1)
                self.no_setting("hands", book, hands=1)
            else:
                self.assertEqual(Setting(book, 1).hands, 1)

    def test_truths_and_other_values_are_no_numbers(self):
        for book in BOOKS:
            for word in BOUNDS:
                for value in NO_NUMBERS:
                    self.no_setting(word, book, **{word: value})

    def test_the_first_wrong_number_is_told(self):
        for book in BOOKS:
            for wrong in (9, True, None, "2", Alike(), Touchy()):
                self.no_setting("hands", book, wrong, makes=wrong, fails=wrong)
                self.no_setting("hands", book, fails=wrong, hands=wrong)
                self.no_setting("makes", book, 2, fails=wrong, makes=wrong)
                self.no_setting("fails", book, 2, makes=6, fails=wrong)

    def test_numbers_cannot_be_set(self):
        setting = Setting(FirstBook())
        for word in BOUNDS:
            with self.assertRaises(AttributeError):
                setattr(setting, word, 1)
        self.assertEqual(setting, Setting(FirstBook()))

    def test_places_and_names_of_arguments(self):
        setting = Setting(fails=4, makes=5, hands=3, book=WakingBook())
        self.assertEqual(setting, Setting(WakingBook(), 3, makes=5, fails=4))
        self.assertEqual((setting.hands, setting.makes, setting.fails), (3, 5, 4))
        with self.assertRaises(TypeError):
            Setting(FirstBook(), 2, 2)


class TestBooks(SettingCase):
    def test_what_is_no_book(self):
        values = odd_values() + ["first", "first cell lock cell parts+cell+flag", NET, Net, FirstBook, FirstBook.twofold,
                                 Book, Book(), Setting(FirstBook()), FirstBook().switches(), dict(FirstBook().switches())]
        for value in values:
            self.no_book(value)

    def test_no_book_is_told_ahead_of_wrong_numbers(self):
        for wrong in (0, 9, True, None, Touchy()):
            self.no_book(None, wrong, makes=wrong, fails=wrong)

    def test_a_twin_is_kept(self):
        for made, other in ((FirstBook, "guard"), (WakingBook, "wait")):
            book = made()
            setting = Setting(book)
            book[other] = "claim" if other == "guard" else "spin"
            self.assertEqual(setting.book(), made())
            self.assertNotEqual(setting.book(), book)
        book = LateBook()
        setting = Setting(book)
        book.fences = ()
        self.assertEqual(setting.book(), LateBook())
        book = NetBook(NET)
        setting = Setting(book)
        book.change(guard="one", needs=Net({"c": ("c",)}))
        self.assertEqual(setting.book(), NetBook(NET))

    def test_a_twin_is_told(self):
        for book in BOOKS:
            setting = Setting(book)
            told = setting.book()
            self.assertIsNot(told, book)
            self.assertIsNot(told, setting.book())
            self.assertEqual((told, told.way, told.switches()), (book, book.way, book.switches()))
            word, value = {"first": ("guard", "swap"), "waking": ("failure", "left"), "late": ("look", "flag"),
                           "net": ("needs", Net({"c": ()}))}[book.way]
            told[word] = value
            self.assertNotEqual(told, book)
            self.assertEqual(setting.book(), book)
            self.assertEqual(setting, Setting(book))


class TestEqual(SettingCase):
    def test_equal_books_and_numbers(self):
        for book in BOOKS:
            self.assertTrue(Setting(book, 3, makes=4, fails=2) == Setting(book.twin(), 3, makes=4, fails=2))
            self.assertFalse(Setting(book, 3, makes=4, fails=2) != Setting(book.twin(), 3, makes=4, fails=2))

    def test_each_number_counts_for_each_book(self):
        for book in BOOKS:
            setting = Setting(book, 3, makes=4, fails=2)
            for other in (Setting(book, 2, makes=4, fails=2), Setting(book, 3, makes=5, fails=2),
                          Setting(book, 3, makes=4, fails=3), Setting(book, 4, makes=3, fails=2)):
                self.assertFalse(setting == other)
                self.assertTrue(setting != other)

    def test_the_book_counts(self):
        for at, book in enumerate(BOOKS):
            for other in BOOKS[:at] + BOOKS[at + 1:]:
                self.assertFalse(Setting(book) == Setting(other))

    def test_other_values_are_not_equal(self):
        setting = Setting(FirstBook())
        for value in odd_values() + [FirstBook(), (FirstBook(), 2, 2, 1), setting.book()]:
            if not isinstance(value, (Alike, Touchy)):
                self.assertIs(setting == value, False)
                self.assertIs(setting != value, True)


if __name__ == "__main__":
    unittest.main()
