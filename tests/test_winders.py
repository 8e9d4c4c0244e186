"""Promise 22: between and left_in; promise 4 of rows of winders."""

import unittest

from tests.random_terms import random_term
from windpoints.plain import run
from windpoints.winders import between, left_in
from windpoints.worths import Pair


class Between(unittest.TestCase):
    def test_what_two_lists_have_in_common(self):
        for one, two, outs, ins in (
            ([], [], [], []),
            ([1], [], [1], []),
            ([], [1], [], [1]),
            ([1, 2, 3], [], [3, 2, 1], []),
            ([], [1, 2, 3], [], [1, 2, 3]),
            ([1, 2, 3], [1, 2, 3], [], []),
            ([1, 2, 3], [4, 5], [3, 2, 1], [4, 5]),
            ([1, 2, 3, 4], [1, 2, 5, 6], [4, 3], [5, 6]),
            ([1, 2], [1, 2, 3, 4], [], [3, 4]),
            ([1, 2, 3, 4], [1, 2], [4, 3], []),
            # The same ids behind an unlike one go out and in again.
            ([1, 2, 3, 4], [1, 5, 3, 4], [4, 3, 2], [5, 3, 4]),
            ([2, 1], [1, 2], [1, 2], [1, 2]),
            ([0, -1], [0, -2], [-1], [-2]),
        ):
            with self.subTest(one=one, two=two):
                self.assertEqual(between(one, two), (outs, ins))

    def test_kinds_of_what_is_told(self):
        told = between([1, 2], [1, 3])
        self.assertIs(type(told), tuple)
        self.assertEqual([type(thing) for thing in told], [list, list])

    def test_the_lists_are_new_and_those_handed_in_stay(self):
        for one, two in (([1, 2, 3], [1, 4, 5]), ([1, 2], [1, 2]), ([], []), ([1], []), ([], [1])):
            first, second = list(one), list(two)
            outs, ins = between(first, second)
            again = (list(outs), list(ins))
            outs.append(9)
            ins.append(8)
            self.assertEqual((first, second), (one, two))
            first.append(7)
            second.append(7)
            self.assertEqual((outs, ins), (again[0] + [9], again[1] + [8]))
            self.assertEqual(between(one, two), again)

    def test_one_list_handed_in_twice(self):
        row = [1, 2, 3]
        self.assertEqual(between(row, row), ([], []))

    def test_by_names(self):
        self.assertEqual(between(two=[1, 2], one=[1]), ([], [2]))


def row_of(text):
    """A row of winders from a text: +1 where 1 goes in, -1 where it goes out."""
    ways = {"+": "in", "-": "out"}
    return [(ways[word[0]], int(word[1:])) for word in text.split()]


class LeftIn(unittest.TestCase):
    def test_rows_of_a_run(self):
        for text, ids in (
            ("", []),
            ("+1", [1]),
            ("+1 -1", []),
            ("+1 +2 +3", [1, 2, 3]),
            ("+1 +2 -2", [1]),
            ("+1 +2 -2 +3", [1, 3]),
            ("+1 +2 -2 -1", []),
            ("+1 -1 +1", [1]),
            ("+1 +2 -2 +2 -2 -1 +1 +2", [1, 2]),
            ("+3 +1 +2", [3, 1, 2]),
            ("+0", [0]),
            ("+0 -0 +-5 +-1 --1", [-5]),
        ):
            with self.subTest(row=text):
                self.assertEqual(left_in(row_of(text)), ids)

    def test_rows_of_none(self):
        for text in (
            "-1", "-0", "+1 -2", "+1 +2 -1", "+1 -1 -1", "+1 +1", "+1 +2 +1", "+1 +2 -2 -1 -2", "+0 +0", "+-1 +-1",
            "+1 -1 -1 +2", "+1 +2 -1 -2",
        ):
            with self.subTest(row=text):
                self.assertIsNone(left_in(row_of(text)))

    def test_things_that_are_no_tuples_of_a_word_and_a_number(self):
        for thing in (
            ("in", True), ("in", False), ("in", None), ("in", "1"), ("in", (1,)), ("in", [1]), ("on", 2), ("", 2),
            ("In", 2), ("in ", 2), (None, 2), (1, 2), (("in",), 2), (["in"], 2), (True, 2), ["in", 2], ("in",),
            ("in", 2, 2), (), "in", 2, None, True, [], {}, {"in": 2}, (("in", 2),), ("in", 1.5), ("in", Pair(1, 2)),
        ):
            with self.subTest(thing=thing):
                self.assertIsNone(left_in([thing]))
                self.assertIsNone(left_in([("in", 1), thing]))
        for thing in (("out", True), ("out", "1"), ("out", None), ["out", 1], ("out",), ("out", 1, 1), ("off", 1)):
            with self.subTest(thing=thing):
                self.assertIsNone(left_in([("in", 1), thing]))
                self.assertIsNone(left_in([("in", 1), thing, ("out", 1)]))

    def test_things_that_are_no_lists(self):
        for thing in (None, 0, 1, "", "in", (), (("in", 1),), True, False, {}, {1: 2}, Pair(1, None)):
            with self.subTest(thing=thing):
                self.assertIsNone(left_in(thing))

    def test_new_lists_and_by_name(self):
        row = row_of("+1 +2")
        told = left_in(row=row)
        told.clear()
        self.assertEqual(row, row_of("+1 +2"))
        self.assertEqual(left_in(row), [1, 2])
        self.assertIsNot(left_in([]), left_in([]))

    def test_long_ones(self):
        row = [("in", number) for number in range(3000)]
        self.assertEqual(left_in(row), list(range(3000)))
        self.assertEqual(left_in(row + [("out", number) for number in reversed(range(3000))]), [])

    def test_runs(self):
        many = 0
        for seed in range(300):
            end = run(random_term(seed, 4 + seed % 3), 5, most=400)
            if end.kind != "steps":
                self.assertEqual(left_in(end.winds), [])
            many += len(end.winds)
            for at in range(len(end.winds)):
                self.assertIsNotNone(left_in(end.winds[:at]))
        self.assertGreater(many, 200)


if __name__ == "__main__":
    unittest.main()
