"""The interface: each name stands in its file, takes its arguments, and each method stands in its class."""

import importlib
import inspect
import unittest

FUNCTIONS = {
    "rules": ["first_state(setting)", "moves(setting, state)", "step(setting, state, move)", "is_fault(state)",
              "is_out(setting, state, hand)"],
    "benches": ["tried(bench, run, *, keep=False)", "play(setting, run)", "end_of(setting, run)",
                "is_run(setting, run)"],
    "verdicts": ["faults(book)", "is_right(book)", "most_makings(book, hands)", "least_fences(look)"],
    "searches": ["all_states(setting, *, most=2000)", "shortest(setting, *, most=2000, kind='any')",
                 "way_out(setting, state, hand, *, most=2000)", "stuck_hands(setting, state, *, most=2000)"],
    "tables": ["gap(table, setting)", "is_closed(setting, states)"],
    "breaking": ["breaking(book, word)", "breaks(setting, run, word)"],
    "endings": ["endings(setting, state)"],
    "changes": ["picked(book, changes, pick)", "picks(book, changes)", "price(changes, pick)"],
    "notes": ["write_book(book)", "write_setting(setting)", "write_run(run)", "read_book(text)", "read_setting(text)",
              "read_run(text)"],
    "papers": ["paper_of(book)", "closed_paper(setting, *, most=2000)", "accepts(paper)"],
}
BOOK = ["__getitem__", "__setitem__", "change", "way", "switches", "__iter__", "listed", "__len__", "__eq__", "twin"]
CLASSES = {
    "onces": {"Once(make, *, kept=False)": ["__call__", "begun", "is_made", "forget"],
              "Shelf(makes, *, kept=False)": ["__call__", "names", "made", "asked", "makings", "forget", "__contains__",
                                              "__len__", "__or__"]},
    "nets": {"Net(needs)": ["__getitem__", "names", "__iter__", "listed", "__len__", "__contains__", "__eq__", "__le__",
                            "__or__", "pairs", "without", "reaches", "ring", "order", "least_cuts"]},
    "books": {"FirstBook(*, look='cell', guard='lock', again='cell', writing='parts cell flag')":
              [*BOOK, "look", "guard", "again", "writing", "twofold", "bare"],
              "WakingBook(*, failure='again', wait='sleep', wake='all')": [*BOOK, "failure", "wait", "wake"],
              "LateBook(*, look='cell', fences=('parts',))": [*BOOK, "look", "fences", "__le__"],
              "NetBook(needs, *, guard='own')": [*BOOK, "guard", "needs"]},
    "settings": {"Setting(book, hands=2, *, makes=2, fails=1)": ["hands", "makes", "fails", "book", "__eq__"]},
    "benches": {"Bench(setting)": ["__call__", "__iadd__", "state", "moves", "listed", "__iter__", "__len__",
                                   "__contains__", "__getitem__", "fault", "back", "twin", "__eq__", "trial"]},
    "tables": {"Table(states)": ["listed", "__len__", "__iter__", "__contains__", "__eq__", "__le__", "__or__",
                                 "__and__"]},
    "changes": {"Changes(book, changes)": ["cost", "listed", "__len__", "__iter__", "__contains__", "floor"]},
    "console": {"Console()": ["run"]},
}


class TestInterface(unittest.TestCase):
    def found(self, name, told):
        """What stands in a file under this name, with these arguments."""
        module = importlib.import_module(f"firstmade.{name}")
        word = told.partition("(")[0]
        value = vars(module)[word]
        self.assertEqual(value.__module__, f"firstmade.{name}")
        self.assertEqual(word + str(inspect.signature(value)), told)
        return value

    def test_functions(self):
        for name, rows in FUNCTIONS.items():
            for told in rows:
                self.assertTrue(inspect.isfunction(self.found(name, told)))

    def test_picks_is_the_only_generator(self):
        for name, rows in FUNCTIONS.items():
            for told in rows:
                is_generator = inspect.isgeneratorfunction(self.found(name, told))
                self.assertIs(is_generator, told.startswith("picks("))

    def test_classes(self):
        for name, rows in CLASSES.items():
            for told, words in rows.items():
                value = self.found(name, told)
                self.assertTrue(inspect.isclass(value))
                for word in words:
                    self.assertIn(word, vars(value))


if __name__ == "__main__":
    unittest.main()
