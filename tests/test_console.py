"""The console: each form of line and its answers, near misses of the forms, and what a line changes."""

import unittest

from firstmade.benches import play
from firstmade.books import FirstBook, LateBook, WakingBook
from firstmade.breaking import breaking
from firstmade.console import Console
from firstmade.errors import MadeError, NoNote
from firstmade.notes import write_book
from firstmade.searches import all_states, shortest, stuck_hands
from firstmade.settings import Setting
from firstmade.verdicts import faults, most_makings
from tests.exploring import FENCES, WRITINGS, first_books, late_books, net_books, waking_books
from tests.odd_values import odd_values
from tests.samples import RING, SELF_NET
from tests.test_notes import NO_BOOK_ROWS

BOOKS = first_books()[::3] + waking_books() + late_books() + net_books("ab")
WIDE = "book net own a=b,c,d,e b=c,d,e c=d,e d=e e="
ASKED = ("moves", "made", "faults", "shortest", "stuck", "most", "break half", "break twice", "break itself",
         "break stuck")
UNKNOWN = [
    "", " ", "  ", "x", "0", "3", "look", "first", "book", "set", "hands", "break", "Moves", "MOVES", "move",
    "moves ", " moves", "moves 1", "made x", "back 1", "back back", "faults all", "shortest any", "shortest 5",
    "stuck 0", "most 2", "break ", " break half", "break  half", "break half twice", "set look", "set look ",
    "set look  flag", "set  look flag", "set look flag x", " set look flag", "set writing parts cell flag",
    "hands 2", "hands 2 2", "hands 2 2 1 1", "hands 2 2 1 ", "hands 2  2 1", " hands 2 2 1", "hands  2 2 1",
    "hands 10 2 1", "hands 2 10 1", "hands 2 2 10", "hands +2 2 1", "hands -1 2 1", "hands 2 2 -1",
    "hands 02 2 1", "hands x 2 1", "hands 2 x 1", "hands 2 2 x", "hands two 2 1", "hands 2.0 2 1", "hand 2 2 1",
    "Hands 2 2 1", "0  look", " 0 look", "0 look ", "0 look 1", "0 look look", "00 look", "01 look", "10 look",
    "-1 look", "+0 look", "x look", "0.0 look", "look 0", "zero look", "0,look", "book ",
    " book first cell lock cell parts+cell+flag", "book  first cell lock cell parts+cell+flag",
    "book first cell lock cell parts+cell+flag ", "Book first cell lock cell parts+cell+flag",
    "first cell lock cell parts+cell+flag", "none", "ok", "state", "listed", "undo",
]


class ConsoleCase(unittest.TestCase):
    def answers(self, console, *rows):
        """Each row is a line and its answer."""
        for line, answer in rows:
            told = console.run(line)
            self.assertIs(type(told), str)
            self.assertEqual((line, told), (line, answer))

    def on(self, *lines):
        """A console on which all these lines were ok."""
        console = Console()
        self.answers(console, *[(line, "ok") for line in lines])
        return console

    def seen(self, console):
        """All that a console tells, with the moves back and forth left out."""
        return [console.run(line) for line in ASKED]

    def unchanged(self, console, rows):
        """The lines are answered so, and nothing has changed behind each."""
        kept = self.seen(console)
        for line, answer in rows:
            self.answers(console, (line, answer))
            self.assertEqual(self.seen(console), kept)


class TestBooks(ConsoleCase):
    def test_at_first(self):
        console = Console()
        self.answers(console, ("faults", "none"), ("made", "0"), ("moves", "2"), ("most", "1"), ("shortest", "none"),
                     ("stuck", "none"), ("back", "nothing"), ("0 look", "ok"), ("0 lock", "ok"), ("1 look", "ok"),
                     ("1 lock", "error"), ("2 look", "error"), ("made", "3"), ("moves", "1"))

    def test_every_book(self):
        console = Console()
        for book in BOOKS:
            self.answers(console, ("book " + write_book(book)[:-1], "ok"),
                         ("faults", " ".join(faults(book)) or "none"), ("made", "0"),
                         ("moves", str(len(play(Setting(book), []).moves()))))
            for word in ("half", "twice", "itself", "stuck", "any", "none", "x", "0"):
                told = str(len(breaking(book, word)[1])) if word in faults(book) else "none"
                self.answers(console, (f"break {word}", told))
            run = shortest(Setting(book))
            self.answers(console, ("shortest", "none" if run is None else str(len(run))))

    def test_rows_that_are_no_books(self):
        console = self.on("book waking again sleep one", "hands 3 2 1", "0 claim", "1 claim")
        self.unchanged(console, [("book " + row, "error") for row in NO_BOOK_ROWS if "" not in row.split(" ")])
        self.unchanged(console, [("book " + row, "unknown") for row in NO_BOOK_ROWS if "" in row.split(" ")])
        self.unchanged(console, [("book first cell lock cell parts+cell+flag\n", "error"), ("book x\n", "error")])
        self.answers(console, ("1 sleep", "ok"))

    def test_a_new_book_leaves_the_numbers(self):
        console = self.on("hands 3 1 0", "book waking again sleep one", "2 claim", "0 claim", "0 sleep")
        # fails is 0: only finish is possible for hand 2, and claim for hand 1.
        self.answers(console, ("moves", "2"), ("2 fail", "error"))
        console = self.on("hands 1 1 2", "book first none none never parts+cell+flag", "0 make", *["0 write"] * 4,
                          "0 end")
        # makes is 1.
        self.answers(console, ("moves", "0"), ("0 make", "error"), ("1 make", "error"))

    def test_a_late_book_is_refused_with_one_hand(self):
        console = self.on("hands 1 2 1", "0 look")
        self.unchanged(console, [("book late cell parts", "error")])
        self.answers(console, ("0 lock", "ok"), ("hands 2 2 1", "ok"), ("book late cell parts", "ok"), ("moves", "2"))
        self.unchanged(console, [("hands 1 2 1", "error")])

    def test_the_bench_begins_anew(self):
        for line in ("book first cell lock cell parts+cell+flag", "set look cell", "hands 2 2 1"):
            console = self.on("0 look", "1 look")
            self.answers(console, ("made", "2"), (line, "ok"), ("made", "0"), ("back", "nothing"), ("0 look", "ok"))

    def test_consoles_go_on_by_themselves(self):
        one, two = Console(), Console()
        self.answers(one, ("book waking again sleep all", "ok"), ("0 claim", "ok"))
        self.answers(two, ("made", "0"), ("most", "1"), ("0 claim", "error"))


class TestSet(ConsoleCase):
    def test_each_switch_of_each_book(self):
        for line, words in (
                ("book first cell lock cell parts+cell+flag",
                 {"look": ["cell", "flag", "none"], "guard": ["none", "lock", "claim", "swap"],
                  "again": ["never", "cell", "flag"], "writing": [row.replace(" ", "+") for row in WRITINGS]}),
                ("book waking again sleep all",
                 {"failure": ["again", "kept", "left"], "wait": ["spin", "sleep", "doze"],
                  "wake": ["all", "one", "chain", "none"]}),
                ("book late cell parts",
                 {"look": ["cell", "flag"], "fences": ["+".join(row) or "-" for row in FENCES]}),
                ("book net own a=a", {"guard": ["own", "one"]})):
            for word, values in words.items():
                for value in values:
                    console = self.on(line, f"set {word} {value}")
                    row = line.split(" ")
                    row[2 + list(words).index(word)] = value
                    self.assertEqual(self.seen(console), self.seen(self.on(" ".join(row))))

    def test_what_the_switch_is_then(self):
        console = self.on("set again never")
        self.answers(console, ("faults", "twice"), ("set guard claim", "ok"), ("faults", "none"),
                     ("set look flag", "ok"), ("set writing parts+flag+cell", "ok"), ("faults", "half"), ("most", "1"))
        console = self.on("book late flag -")
        self.answers(console, ("faults", "half"), ("set fences cell+reads", "ok"), ("faults", "none"),
                     ("set fences -", "ok"), ("faults", "half"), ("set fences parts", "ok"), ("set look cell", "ok"),
                     ("faults", "none"))

    def test_values_and_words_that_are_none(self):
        wrong = ["set look every", "set look Cell", "set Look cell", "set guard own", "set guard -", "set again none",
                 "set writing parts", "set writing parts+cell", "set writing parts+cell+flag+",
                 "set writing +parts+cell+flag", "set writing parts,cell,flag", "set writing -", "set fences parts",
                 "set fences -", "set failure again", "set wait sleep", "set wake all", "set needs a=", "set way first",
                 "set hands 2", "set x y", "set look parts+cell", "set makes 1", "set set set", "set look cell\n"]
        console = self.on("0 look")
        self.unchanged(console, [(line, "error") for line in wrong])
        console = self.on("book late cell parts", "0 write")
        self.unchanged(console, [(line, "error") for line in (
            "set look none", "set fences cell+parts", "set fences parts+parts", "set fences +", "set fences parts+",
            "set fences x", "set fences --", "set fences ()", "set guard lock", "set writing parts+cell+flag")])
        console = self.on("book waking again sleep all", "0 claim")
        self.unchanged(console, [(line, "error") for line in (
            "set wait wake", "set wake every", "set failure -", "set look cell", "set fences -", "set guard own")])

    def test_a_net_cannot_be_set(self):
        console = self.on("book net own a=b b=a", "0 a", "0 own")
        self.unchanged(console, [(line, "error") for line in (
            "set needs a=", "set needs a=b", "set needs -", "set guard lock", "set guard none", "set look cell")])
        self.answers(console, ("set guard one", "ok"), ("made", "0"), ("faults", "itself stuck"))

    def test_a_new_switch_leaves_the_numbers(self):
        console = self.on("hands 3 1 0", "set look none", "set guard none", "set again never", "2 make")
        self.answers(console, ("moves", "1"), ("0 make", "error"), ("most", "none"), ("set look cell", "ok"),
                     ("most", "3"))


class TestHands(ConsoleCase):
    def test_the_numbers(self):
        console = self.on("book first cell none never parts+cell+flag")
        for hands in range(1, 5):
            for makes in range(1, 7):
                for fails in range(5):
                    self.answers(console, (f"hands {hands} {makes} {fails}", "ok"), ("moves", str(hands)),
                                 ("most", str(hands)))

    def test_each_number_is_taken(self):
        console = self.on("hands 3 1 0", "set look none", "set guard none", "0 make", *["0 write"] * 4, "0 end")
        self.answers(console, ("moves", "0"), ("hands 3 2 0", "ok"), ("0 make", "ok"), ("moves", "3"),
                     ("1 make", "ok"), ("2 make", "error"))
        console = self.on("book waking again sleep all", "hands 1 1 2", *["0 claim", "0 fail", "0 end"] * 2, "0 claim")
        self.answers(console, ("0 fail", "error"), ("0 finish", "ok"))

    def test_numbers_that_are_refused(self):
        console = self.on("book waking again sleep one", "0 claim", "1 claim")
        self.unchanged(console, [(line, "error") for line in (
            "hands 0 2 1", "hands 5 2 1", "hands 9 2 1", "hands 2 0 1", "hands 2 7 1", "hands 2 2 5", "hands 2 2 9",
            "hands 0 0 9")])

    def test_the_book_is_left(self):
        console = self.on("book net one a=b b=a", "hands 4 1 0", "0 a", "1 b", "2 a", "3 b")
        self.answers(console, ("faults", "itself stuck"), ("0 own", "ok"), ("1 own", "error"))


class TestMoves(ConsoleCase):
    def test_a_run_to_each_fault(self):
        for book in (FirstBook.bare(), FirstBook(guard="none", writing="cell parts flag"), LateBook(fences=()), RING):
            word = faults(book)[0]
            setting, run = breaking(book, word)
            console = self.on("book " + write_book(book)[:-1], f"hands {max(setting.hands, 2)} 2 1")
            self.answers(console, *[(f"{hand} {deed}", "ok") for hand, deed in run[:-1]])
            many = console.run("moves")
            self.answers(console, (f"{run[-1][0]} {run[-1][1]}", word), ("moves", "0"), ("made", str(len(run))),
                         ("stuck", "none"), ("0 look", "error"), ("0 use", "error"), ("back", "ok"), ("moves", many),
                         ("made", str(len(run) - 1)), (f"{run[-1][0]} {run[-1][1]}", word))

    def test_each_fault_has_its_word(self):
        console = self.on("book net own a=a", "0 a", "0 own", "0 need")
        self.answers(console, ("0 ask", "itself"), ("0 ask", "error"), ("faults", "itself stuck"))
        console = self.on("book late cell -", "0 write", "0 write", "0 write", "0 cell", "1 look")
        self.answers(console, ("1 use", "half"))

    def test_what_is_not_possible(self):
        console = self.on("0 look")
        self.unchanged(console, [(line, "error") for line in (
            "0 look", "0 make", "0 LOOK", "0 lock!", "1 lock", "2 look", "3 look", "9 look", "0 0", "0 end", "1 Look",
            "1 look\n", "1 abcdefghijk")])
        self.answers(console, ("0 lock", "ok"), ("1 look", "ok"), ("made", "3"))

    def test_as_a_bench_does(self):
        """Each possible move of many states is ok or tells its fault, and is taken back again."""
        for book in (FirstBook(look="flag", guard="claim", writing="flag parts cell"), WakingBook(wait="doze"),
                     LateBook(look="flag", fences=()), RING):
            setting = Setting(book)
            console = self.on("book " + write_book(book)[:-1])
            bench = play(setting, [])
            for _ in range(12):
                self.answers(console, ("moves", str(len(bench.moves()))), ("made", str(len(bench))))
                for hand, deed in bench.moves():
                    bench((hand, deed))
                    told = "ok" if bench.fault is None else bench.fault[0]
                    self.answers(console, (f"{hand} {deed}", told), ("back", "ok"))
                    bench.back()
                if bench.moves():
                    hand, deed = bench.moves()[-1]
                    bench((hand, deed))
                    console.run(f"{hand} {deed}")

    def test_back(self):
        console = self.on("0 look", "0 lock", "0 look")
        self.answers(console, ("back", "ok"), ("made", "2"), ("back", "ok"), ("back", "ok"), ("made", "0"),
                     ("back", "nothing"), ("back", "nothing"), ("moves", "2"), ("0 look", "ok"), ("0 lock", "ok"))


class TestAsked(ConsoleCase):
    def test_faults(self):
        for line, told in (
                ("book first cell none never cell+parts+flag", "half twice"), ("book waking left spin all", "stuck"),
                ("book late cell -", "half"), ("book net own a=a", "itself stuck"), ("book net one a=", "none"),
                ("book waking kept spin none", "none"), ("book late flag cell+reads", "none")):
            self.answers(self.on(line), ("faults", told))

    def test_shortest(self):
        console = self.on("book first cell none never parts+cell+flag")
        self.answers(console, ("shortest", "14"), ("hands 1 2 1", "ok"), ("shortest", "none"), ("hands 2 1 1", "ok"),
                     ("shortest", "none"), ("break twice", "14"), ("hands 2 2 1", "ok"))
        # It goes from the first state, not from where the bench is.
        self.answers(console, ("0 look", "ok"), ("shortest", "14"))

    def test_open(self):
        self.assertGreater(len(all_states(Setting(WakingBook(wake="one"), 4, fails=4), most=10000)), 2000)
        console = self.on("book waking again sleep one", "hands 4 2 4")
        self.answers(console, ("shortest", "open"), ("stuck", "none"), ("hands 3 2 1", "ok"), ("shortest", "none"))
        console = self.on(WIDE, "hands 4 2 1", "3 a")
        self.answers(console, ("stuck", "open"), ("shortest", "open"), ("back", "ok"), ("stuck", "none"),
                     ("hands 3 2 1", "ok"), ("2 a", "ok"), ("stuck", "none"))

    def test_stuck(self):
        console = self.on("book waking again sleep none", "0 claim", "1 claim")
        self.answers(console, ("stuck", "none"), ("1 sleep", "ok"), ("stuck", "1"), ("0 finish", "ok"), ("stuck", "1"),
                     ("back", "ok"), ("back", "ok"), ("stuck", "none"))
        console = self.on("book waking left sleep all", "hands 3 2 1", "0 claim", "0 fail", "1 claim", "2 claim")
        self.answers(console, ("stuck", "1 2"), ("0 end", "ok"), ("0 claim", "ok"), ("stuck", "0 1 2"))
        console = self.on("book net own a=b b=a", "0 a", "1 b")
        self.answers(console, ("stuck", "none"), ("0 own", "ok"), ("stuck", "1"), ("1 own", "ok"), ("stuck", "0 1"))

    def test_stuck_as_stuck_hands(self):
        for book in (WakingBook(wake="none"), WakingBook(wait="doze", wake="one"), RING, FirstBook(again="never"),
                     LateBook()):
            setting = Setting(book)
            console = self.on("book " + write_book(book)[:-1])
            bench = play(setting, [])
            while bench.moves() and len(bench) < 25:
                told = " ".join(str(hand) for hand in stuck_hands(setting, bench.state(), most=20000)) or "none"
                self.answers(console, ("stuck", told))
                hand, deed = bench.moves()[len(bench) * 2 // 3 % len(bench.moves())]
                bench((hand, deed))
                console.run(f"{hand} {deed}")

    def test_most(self):
        for book in first_books()[::4]:
            console = self.on("book " + write_book(book)[:-1])
            for hands in range(1, 5):
                most = most_makings(book, hands)
                self.answers(console, (f"hands {hands} 1 0", "ok"), ("most", "none" if most is None else str(most)))
        for line in ("book waking again sleep all", "book late cell -", "book net own a="):
            self.answers(self.on(line), ("most", "error"))

    def test_break(self):
        console = self.on("set again never")
        self.answers(console, ("break twice", "18"), ("break half", "none"), ("break stuck", "none"),
                     ("break x", "none"), ("break Twice", "none"), ("break 0", "none"))
        console = self.on("book net own a=a", "0 a")
        self.answers(console, ("break itself", "4"), ("made", "1"),
                     ("break stuck", str(len(breaking(SELF_NET, "stuck")[1]))), ("break any", "none"))

    def test_asking_changes_nothing(self):
        for lines in (["0 look", "0 lock"], ["book waking left doze one", "0 claim", "1 claim"],
                      ["book late flag -", "1 peek"], ["book net one a=b b=a", "0 a", "0 own"]):
            console = self.on(*lines)
            self.unchanged(console, [(line, console.run(line)) for line in ASKED])


class TestUnknown(ConsoleCase):
    def test_lines_of_no_form(self):
        for lines in ([], ["0 look"], ["book waking again sleep none", "0 claim", "1 claim", "1 sleep"],
                      ["book net own a=a", "0 a"], ["book late flag parts", "0 write", "1 peek"]):
            self.unchanged(self.on(*lines), [(line, "unknown") for line in UNKNOWN])

    def test_no_text(self):
        console = self.on("0 look")
        kept = self.seen(console)
        for value in [*[value for value in odd_values() if not isinstance(value, str)], b"made", ["made"], ("0", "a")]:
            with self.assertRaises(NoNote) as caught:
                console.run(value)
            self.assertIsNone(caught.exception.line)
            self.assertEqual(self.seen(console), kept)
        with self.assertRaises(MadeError):
            console.run(None)

    def test_names_of_arguments(self):
        self.assertEqual(Console().run(line="made"), "0")


if __name__ == "__main__":
    unittest.main()
