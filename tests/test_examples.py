"""The examples of the document, each beginning anew, and those of README.md, one behind the other."""

import doctest
import pathlib
import unittest

TWICE = """
>>> from firstmade.books import FirstBook
>>> from firstmade.breaking import breaking
>>> from firstmade.verdicts import faults, most_makings
>>> book = FirstBook(again="never")
>>> setting, run = breaking(book, "twice")
>>> (faults(book), most_makings(book, 3), setting.hands, run[-1][1])
(['twice'], 3, 2, 'use')
"""
ASLEEP = """
>>> from firstmade.benches import play
>>> from firstmade.books import WakingBook
>>> from firstmade.searches import stuck_hands
>>> from firstmade.settings import Setting
>>> setting = Setting(WakingBook(wake="none"), 2)
>>> bench = play(setting, [(0, "claim"), (1, "claim"), (1, "sleep")])
>>> (bench.state(), bench.moves(), stuck_hands(setting, bench.state()))
((1, 1, ('making', 'asleep')), [(0, 'finish'), (0, 'fail')], [1])
"""
RINGS = """
>>> from firstmade.nets import Net
>>> net = Net({"x": ("y",), "y": ("x", "z"), "z": ()})
>>> (net.ring(), net.order(), net.least_cuts(), net.without(("y", "x")).order())
(['x', 'y'], None, [(('x', 'y'),), (('y', 'x'),)], ['z', 'y', 'x'])
"""


class TestExamples(unittest.TestCase):
    def holds(self, text, name):
        test = doctest.DocTestParser().get_doctest(text, {}, name, None, None)
        self.assertTrue(test.examples)
        told = []
        doctest.DocTestRunner(verbose=False).run(test, out=told.append)
        self.assertEqual("".join(told), "")

    def test_of_the_document(self):
        for name, text in (("twice", TWICE), ("asleep", ASLEEP), ("rings", RINGS)):
            self.holds(text, name)

    def test_of_the_readme(self):
        readme = pathlib.Path(__file__).parent.parent / "README.md"
        blocks = readme.read_text(encoding="ascii").split("```")[1::2]
        self.holds("\n".join(blocks), "README.md")


if __name__ == "__main__":
    unittest.main()
