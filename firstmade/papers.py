"""Papers: tuples that show of a book that it is right or wrong, or of states that they are closed."""

from firstmade.breaking import breaking, breaks
from firstmade.errors import NoNote, NoTable
from firstmade.notes import read_book, read_run, read_setting, write_book, write_run, write_setting
from firstmade.searches import all_states
from firstmade.tables import is_closed
from firstmade.verdicts import faults, is_right


def paper_of(book):
    """The paper that a book is right, or of its first fault; raises NoBook."""
    words = faults(book)
    if not words:
        return ("right", write_book(book))
    setting, run = breaking(book, words[0])
    return ("fault", write_setting(setting), write_run(run), words[0])


def closed_paper(setting, *, most=2000):
    """The paper of the closed states of a setting; raises as all_states, then NoTable if a fault can be come to."""
    states = all_states(setting, most=most)
    if not is_closed(setting, states):
        raise NoTable(None)
    return ("closed", write_setting(setting), states)


def is_true(kind, parts):
    """Whether a paper of this kind has these parts, and they are so; raises NoNote, TooMany."""
    if kind == "right" and len(parts) == 1:
        return is_right(read_book(parts[0]))
    if kind == "fault" and len(parts) == 3:
        return breaks(read_setting(parts[0]), read_run(parts[1]), parts[2])
    if kind == "closed" and len(parts) == 2:
        return is_closed(read_setting(parts[0]), parts[1])
    return False


def accepts(paper):
    """Whether any value is a paper that is right; raises TooMany as breaks does."""
    if not isinstance(paper, tuple) or len(paper) == 0 or not isinstance(paper[0], str):
        return False
    try:
        return is_true(paper[0], paper[1:])
    except NoNote:
        return False
