"""What the tests of rules share: runs that are told state by state."""

import unittest

from firstmade.rules import first_state, is_fault, moves, step


class WalkCase(unittest.TestCase):
    def deeds(self, setting, state, hand):
        return [deed for number, deed in moves(setting, state) if number == hand]

    def walk(self, setting, *rows):
        """Makes the moves of rows (move, state behind it); returns the last state."""
        state = first_state(setting)
        for move, behind in rows:
            self.assertIn(move, moves(setting, state))
            state = step(setting, state, move)
            self.assertEqual(state, behind)
            # Truths and numbers are equal, lists and tuples may look alike.
            self.assertEqual(repr(state), repr(behind))
        return state

    def end_of(self, setting, *run):
        state = first_state(setting)
        for move in run:
            state = step(setting, state, move)
        return state

    def is_last(self, setting, state, word, hand, what):
        """The state is this fault, and no moves are possible behind it."""
        self.assertEqual(state, (word, hand, what))
        self.assertIs(is_fault(state), True)
        self.assertEqual(moves(setting, state), [])
