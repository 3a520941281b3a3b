"""Notes: books, settings and runs as texts of rows, and back."""

from firstmade.books import FirstBook, LateBook, NetBook, WakingBook, is_book
from firstmade.counts import is_digit, is_within
from firstmade.errors import NoBook, NoMove, NoNet, NoNote, NoSetting, NoValue
from firstmade.names import is_name
from firstmade.nets import Net
from firstmade.settings import MOST_HANDS, Setting, need_setting


def words_of(value):
    """The words in which the value of a switch is written."""
    if isinstance(value, Net):
        return [name + "=" + ",".join(value[name]) for name in value]
    if isinstance(value, tuple):
        return ["+".join(value) if value else "-"]
    return [value.replace(" ", "+")]


def write_book(book):
    """The note of a book; raises NoBook."""
    if not is_book(book):
        raise NoBook(book)
    words = [book.way]
    for _, value in book.switches():
        words.extend(words_of(value))
    return " ".join(words) + "\n"


def write_setting(setting):
    """The note of a setting; raises NoSetting."""
    need_setting(setting)
    return write_book(setting.book()) + f"hands {setting.hands} {setting.makes} {setting.fails}\n"


def is_noted_move(move):
    """Whether any value is a move as notes can have it, possible or not."""
    if not isinstance(move, tuple) or len(move) != 2:
        return False
    return is_within(move[0], 0, MOST_HANDS - 1) and is_name(move[1])


def write_run(run):
    """The note of a run; raises NoMove."""
    if not isinstance(run, (list, tuple)):
        raise NoMove(None)
    for index, move in enumerate(run):
        if not is_noted_move(move):
            raise NoMove(index)
    return "".join([f"{hand} {deed}\n" for hand, deed in run])


def switch_value(word, text):
    """The value of the switch that is written so, if it is one; no net is."""
    if word == "writing":
        return text.replace("+", " ")
    if word == "fences":
        return () if text == "-" else tuple(text.split("+"))
    return text


def switched_book(book, texts):
    """The book with the values of its switches that are written so, or None."""
    if len(texts) != len(book):
        return None
    values = {word: switch_value(word, text) for word, text in zip(book.listed(), texts)}
    try:
        book.change(**values)
    except NoValue:
        return None
    return book


def net_book(texts):
    """The net book that is written so, or None."""
    if not texts:
        return None
    guard, *rows = texts
    needs = {}
    for row in rows:
        name, _, rest = row.partition("=")
        needs[name] = tuple(rest.split(",")) if rest else ()
    try:
        net = Net(needs)
        book = NetBook(net, guard=guard)
    except (NoNet, NoValue):
        return None
    # A name that comes twice, or too late, or without its sign, would be written otherwise.
    return book if words_of(net) == rows else None


def book_of(words):
    """The book of the words of a row, or None."""
    way, *texts = words
    if way == "first":
        return switched_book(FirstBook(), texts)
    if way == "waking":
        return switched_book(WakingBook(), texts)
    if way == "late":
        return switched_book(LateBook(), texts)
    return net_book(texts) if way == "net" else None


def setting_of(book, words):
    """The setting of a book and the words of the row behind it, or None."""
    if len(words) != 4 or words[0] != "hands" or not all([is_digit(word) for word in words[1:]]):
        return None
    hands, makes, fails = [int(word) for word in words[1:]]
    try:
        return Setting(book, hands, makes=makes, fails=fails)
    except NoSetting:
        return None


def rows_of(text):
    """The words of each row of a note; raises NoNote(None)."""
    if not isinstance(text, str) or text != "" and not text.endswith("\n"):
        raise NoNote(None)
    return [row.split(" ") for row in text.split("\n")[:-1]]


def first_book_of(rows):
    """The book of the first row; raises NoNote."""
    book = book_of(rows[0]) if rows else None
    if book is None:
        raise NoNote(1)
    return book


def read_book(text):
    """The book of a note; raises NoNote."""
    rows = rows_of(text)
    book = first_book_of(rows)
    if len(rows) > 1:
        raise NoNote(2)
    return book


def read_setting(text):
    """The setting of a note; raises NoNote."""
    rows = rows_of(text)
    book = first_book_of(rows)
    setting = setting_of(book, rows[1]) if len(rows) > 1 else None
    if setting is None:
        raise NoNote(2)
    if len(rows) > 2:
        raise NoNote(3)
    return setting


def read_run(text):
    """The list of the moves of a note; raises NoNote."""
    run = []
    for number, words in enumerate(rows_of(text), start=1):
        if len(words) != 2 or not is_digit(words[0]) or not is_noted_move((int(words[0]), words[1])):
            raise NoNote(number)
        run.append((int(words[0]), words[1]))
    return run
