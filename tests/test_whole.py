"""The whole program: for every book, what all modules tell of it agrees."""

import random
import unittest

from firstmade.benches import end_of, is_run, play
from firstmade.books import LateBook, NetBook
from firstmade.breaking import breaking, breaks
from firstmade.changes import Changes, picked, picks, price
from firstmade.errors import Failed, NoTable
from firstmade.notes import read_book, read_run, read_setting, write_book, write_run, write_setting
from firstmade.onces import Shelf
from firstmade.papers import accepts, closed_paper, paper_of
from firstmade.rules import is_fault, is_out, moves, step
from firstmade.searches import all_states, shortest, stuck_hands
from firstmade.settings import Setting
from firstmade.tables import is_closed
from firstmade.verdicts import faults, is_right, least_fences
from tests.exploring import FENCES, WRITINGS, first_books, late_books, net_books, small_nets, waking_books
from tests.samples import WIDE_NET

PLAIN_BOOKS = first_books() + waking_books() + late_books()
BOOKS = PLAIN_BOOKS + net_books("a") + net_books("ab") + net_books("abc")[::13]
# One list of six changes for each kind of book, some of one switch, with which some books come right at several costs.
CHANGES = {
    "first": [("guard", "claim", 3), ("guard", "swap", 2), ("guard", "lock", 1), ("again", "flag", 1),
              ("writing", WRITINGS[0], 2), ("look", "none", 1)],
    "waking": [("failure", "kept", 2), ("wait", "spin", 2), ("wait", "sleep", 1), ("wake", "chain", 1),
               ("wake", "all", 1), ("failure", "left", 0)],
    "late": [("look", "cell", 1), ("fences", ("parts",), 2), ("fences", ("cell", "reads"), 2), ("fences", (), 0),
             ("look", "flag", 1), ("fences", FENCES[-1], 3)],
}


class WholeCase(unittest.TestCase):
    def shows(self, setting, run, word):
        """Whether a run shows a fault, by the rules alone."""
        state = end_of(setting, run)
        if is_fault(state):
            return word == state[0]
        return word == "stuck" and setting.way in ("waking", "net") and stuck_hands(setting, state, most=20000) != []


class TestEveryBook(WholeCase):
    def test_faults_and_what_breaks_the_book(self):
        for book in BOOKS:
            self.assertIs(is_right(book), faults(book) == [])
            for word in faults(book):
                setting, run = breaking(book, word)
                self.assertTrue(self.shows(setting, run, word))
                self.assertIs(breaks(setting, run, word), True)
                paper = ("fault", write_setting(setting), write_run(run), word)
                self.assertIs(accepts(paper), True)
                self.assertEqual(play(read_setting(paper[1]), read_run(paper[2])), play(setting, run))

    def test_closed_tables_and_their_papers(self):
        """A setting has a closed paper, or a shortest run to a fault that its book has."""
        for book in BOOKS:
            setting = Setting(book)
            run = shortest(setting)
            states = all_states(setting)
            self.assertIs(is_closed(setting, states), run is None)
            if run is None:
                self.assertIs(accepts(closed_paper(setting)), True)
            else:
                self.assertIn(end_of(setting, run)[0], faults(book))
                with self.assertRaises(NoTable):
                    closed_paper(setting)
            self.assertIs(accepts(("closed", write_setting(setting), states)), run is None)

    def test_papers_of_books(self):
        for book in BOOKS:
            paper = paper_of(book)
            self.assertIs(accepts(paper), True)
            self.assertIs(paper[0] == "right", is_right(book))
            self.assertIs(accepts(("right", write_book(book))), is_right(book))
            self.assertEqual(read_book(write_book(book)), book)

    def test_papers_that_are_mixed_up_are_accepted_just_if_they_are_true(self):
        drawn = random.Random(3)
        papers = [paper for paper in map(paper_of, BOOKS) if paper[0] == "fault"]
        true = 0
        for _ in range(1500):
            mixed = ("fault", drawn.choice(papers)[1], drawn.choice(papers)[2], drawn.choice(papers)[3])
            setting, run = read_setting(mixed[1]), read_run(mixed[2])
            told = is_run(setting, run) and self.shows(setting, run, mixed[3])
            self.assertIs(accepts(mixed), told)
            true += told
        self.assertGreater(true, 50)

    def test_tables_that_are_mixed_up(self):
        """States of another setting close a setting only if they hold all that its runs come to."""
        drawn = random.Random(4)
        settings = [Setting(drawn.choice(BOOKS), drawn.randint(2, 3), fails=drawn.randint(0, 1)) for _ in range(60)]
        settings = [setting for setting in settings if shortest(setting, most=20000) is None]
        rows = [(setting, all_states(setting, most=20000)) for setting in settings]
        for setting, states in rows:
            for other, _ in rows:
                told = set(all_states(other, most=20000)) <= set(states) and all(
                    not is_fault(step(other, state, move)) for state in all_states(other, most=20000)
                    for move in moves(other, state))
                self.assertIs(accepts(("closed", write_setting(other), states)), told)


class TestChangesOfEveryBook(WholeCase):
    def test_picks_of_least_cost_and_cheaper_ones(self):
        costs = set()
        for book in PLAIN_BOOKS:
            changes = CHANGES[book.way]
            told = Changes(book, changes)
            costs.add(told.cost)
            cheaper = {row[0]: row for row in told.floor()}
            for pick in picks(book, changes):
                new = picked(book, changes, pick)
                cost = price(changes, pick)
                self.assertIs(pick in told, is_right(new) and cost == told.cost)
                self.assertIs(pick in cheaper, told.cost is None or cost < told.cost)
                if pick in cheaper:
                    _, word, setting, run = cheaper[pick]
                    self.assertEqual((word, (setting, run)), (faults(new)[0], breaking(new, word)))
                    self.assertTrue(self.shows(setting, run, word))
            for pick in told:
                self.assertIs(accepts(("right", write_book(picked(book, changes, pick)))), True)
        self.assertGreater(len(costs), 4)

    def test_the_told_fences_are_all_least_ones(self):
        for look in ("cell", "flag"):
            right = [set(row) for row in FENCES if is_right(LateBook(look=look, fences=row))]
            least = [row for row in right if not any(other < row for other in right)]
            self.assertEqual(least, [set(least_fences(look))])


class TestNets(WholeCase):
    def test_nets_without_rings_can_be_made_in_the_told_order(self):
        for net in small_nets("abc"):
            order = net.order()
            self.assertIs(order is None, net.ring() is not None)
            setting = Setting(NetBook(net), 1)
            if order is None:
                run = shortest(setting, kind="itself")
                self.assertEqual(end_of(setting, run)[0], "itself")
                continue
            bench = play(setting, [])
            for name in order:
                bench((0, name))
                while not is_out(setting, bench.state(), 0):
                    bench(bench.moves()[0])
            self.assertEqual(bench.state()[0], tuple(sorted(order)))
            self.assertEqual([deed for _, deed in bench.listed()].count("make"), 3)
            self.assertEqual([deed for _, deed in bench.listed()].count("take"), len(net.pairs()))

    def test_shelves_of_nets(self):
        """A shelf whose makings ask as a net needs: each value is made once, or a making asks for itself."""
        def making(needs):
            return lambda shelf: [shelf(need) for need in needs]

        for net in [*small_nets("abc"), WIDE_NET]:
            for name in net:
                shelf = Shelf({other: making(net[other]) for other in net})
                ringed = any(other in net.reaches(other) for other in [name, *net.reaches(name)])
                if ringed:
                    with self.assertRaises(Failed) as caught:
                        shelf(name)
                    self.assertEqual(caught.exception.why, "itself")
                    self.assertNotIn(name, shelf.made())
                else:
                    self.assertIs(shelf(name), shelf(name))
                    self.assertEqual(sorted(shelf.made()), sorted([name, *net.reaches(name)]))
                for other in shelf.made():
                    self.assertEqual(shelf.makings(other), 1)
                    self.assertEqual(shelf.asked(other), list(net[other]))
                    ahead = shelf.made()[:shelf.made().index(other)]
                    self.assertTrue(all(need in ahead for need in net[other]))


if __name__ == "__main__":
    unittest.main()
