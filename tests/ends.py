"""What the tests ask of every machine: the same end, by whatever stops between."""

import unittest

from tests.reading import term
from windpoints.heap import HeapRun
from windpoints.lesser import run_turned
from windpoints.pile import PileRun
from windpoints.plain import run
from windpoints.terms import paths
from windpoints.turning import turned
from windpoints.worths import shown



def pile_with_moves(whole, given):
    return PileRun(whole, given, moves=True)


# How a run that goes on by pieces is made.
MAKERS = {
    "heap": HeapRun,
    "pile": PileRun,
    "pile with moves": pile_with_moves,
}
# Terms with more places are not turned, and runs of more steps may be too long when they are.
MOST_PLACES = 100
MOST_STEPS = 400


def winds_text(winds):
    """A row of winders as a text: +1 where 1 goes in, -1 where it goes out."""
    signs = {"in": "+", "out": "-"}
    return " ".join(signs[way] + str(number) for way, number in winds)


def told(result):
    """All that a Result tells, as one tuple of plain things."""
    worth = result.worth if result.kind == "steps" else shown(result.worth)
    return (result.kind, worth, result.output, winds_text(result.winds), result.steps, result.height)


def gone_on(machine, pieces):
    for many in pieces:
        machine.go_on(many)
    return told(machine.result())


class Ends(unittest.TestCase):
    def assert_end(self, text, kind, worth, output="", winds="", steps=None, height=None, given=None):
        """Check a run's end on every machine. The output is written as its texts with blanks between."""
        whole = term(text) if isinstance(text, str) else text
        result = run(whole, given)
        end = told(result)
        self.assertEqual(end[:2], (kind, worth))
        self.assertEqual(" ".join(end[2]), output)
        self.assertEqual(end[3], winds)
        if steps is not None:
            self.assertEqual(end[4:], (steps, height))
        self.assert_left(result.winds)
        self.assert_machines(whole, given, end)
        return result

    def assert_left(self, winds):
        """Check that each out is of the innermost one that is in, and that none is left in."""
        left = []
        for way, number in winds:
            self.assertIs(type(number), int)
            if way == "in":
                self.assertNotIn(number, left)
                left.append(number)
            else:
                self.assertEqual(left.pop(), number)
        self.assertEqual(left, [])

    def assert_machines(self, whole, given, end):
        """Check that each machine tells an end, in one piece and in pieces of one step."""
        for name, maker in MAKERS.items():
            with self.subTest(machine=name):
                self.assertEqual(gone_on(maker(whole, given), [20000]), end)
                self.assertEqual(gone_on(maker(whole, given), [1] * (end[4] + 2)), end)
        if len(paths(whole)) <= MOST_PLACES and end[4] <= MOST_STEPS:
            self.assert_turned(whole, given, end)

    def assert_turned(self, whole, given, end):
        """Check that the turned text tells an end, and that its frames are few."""
        result = run_turned(turned(whole), given)
        self.assertEqual(told(result)[:4], end[:4])
        self.assertLessEqual(result.height, 8)
        return result

    def assert_stops(self, text, given=None):
        """Check each stop on the way: most, and pieces of many sizes on every machine."""
        whole = term(text) if isinstance(text, str) else text
        steps = run(whole, given, most=20000).steps
        stops = [told(run(whole, given, most=most)) for most in range(steps + 2)]
        for most, stop in enumerate(stops):
            self.assertEqual(stop[4], min(most, steps))
            self.assertEqual(stop[0] == "steps", most < steps)
        for name, maker in MAKERS.items():
            for size in (1, 2, 3, 7, steps, steps + 1):
                with self.subTest(machine=name, size=size):
                    self.assert_pieces(maker(whole, given), size, stops)

    def assert_pieces(self, machine, size, stops):
        at = 0
        last = len(stops) - 2
        self.assertEqual(told(machine.result()), stops[0])
        while at < last:
            self.assertIs(machine.go_on(0), False)
            at = min(at + size, last)
            self.assertIs(machine.go_on(size), at == last)
            self.assertEqual(told(machine.result()), stops[at])
        self.assertIs(machine.go_on(0), True)
        self.assertIs(machine.go_on(5), True)
        self.assertEqual(told(machine.result()), stops[-1])
