"""Promises 4, 19 and 25: the pile's runs, and how many frames they copy."""

import unittest

from tests.ends import Ends, gone_on, told
from tests.random_terms import random_term
from tests.reading import term
from windpoints.heap import HeapRun
from windpoints.looks import escapes
from windpoints.pile import PileRun
from windpoints.plain import run
from windpoints.results import Result

# Each row: the term, and how many frames are copied without moves and with them.
COPIES = [
    ("(do (wind 1 2 3) (mark t 4) (guard (fault 5) x x))", 0, 0),
    ("(catch k 5)", 0, 0),
    ("(plus 1 (catch k 5))", 1, 0),
    ("(plus 1 (catch k k))", 1, 1),
    ("(plus 1 (catch k (go k 5)))", 1, 0),
    ("(plus 1 (catch k (times 2 (go k 5))))", 1, 0),
    ("(plus 1 (catch k (go (do k) 5)))", 1, 1),
    ("(plus 1 (catch k (call (fun () (go k 5)))))", 1, 1),
    ("(plus (catch j 1) (plus 2 (catch k 5)))", 3, 0),
    ("(plus (catch j j) (plus 2 (catch k 5)))", 3, 1),
    ("(say (say (say (say (catch k 5)))))", 4, 0),
    # Frames of all kinds: those that wait, guards, marks, winders, what keeps a worth, leaps.
    ("(guard (mark t (wind 0 (let x (catch k 5) x) 0)) e e)", 4, 0),
    ("(wind (catch k 1) 2 3)", 1, 0),
    ("(wind 0 1 (catch k 2))", 1, 0),
    ("(guard (wind 0 (fault 1) (catch k 5)) e 2)", 2, 0),
    # What is laid counts none.
    ("(let n (cell 0) (plus 1 (let p (catch k k) (do (set n (plus (get n) 1)) (if (less (get n) 5) (go p p) 9)))))", 2, 2),
    # A take copies what is inside its mark.
    ("(mark t (take t k 5))", 0, 0),
    ("(mark t (plus 1 (plus 2 (take t k 5))))", 2, 2),
    ("(say (mark t (plus 1 (plus 2 (take t k 5)))))", 2, 2),
    ("(mark t (guard (wind 0 (mark s (take t k 5)) 0) e 1))", 3, 3),
    ("(mark t (plus 1 (take t k (plus (use k 1) (plus (use k 2) (use k 3))))))", 1, 1),
    # A take that is a fault copies none.
    ("(guard (mark s (plus 1 (take t k 5))) e e)", 0, 0),
    ("(mark t (guard (wind 0 (fault 1) (say (take t k 5))) e e))", 0, 0),
    # Where there is a take no catch is moved, wherever the take stands.
    ("(do (plus 1 (catch k (go k 5))) (mark t (take t j 1)))", 2, 2),
    ("(do (plus 1 (catch k (go k 5))) (fun () (take t j 1)))", 2, 2),
    # In a loop each round copies.
    ("(call (rec f (n) (if (less n 1) 0 (do (catch k (go k 1)) (call f (minus n 1))))) 5)", 5, 0),
    ("(call (rec f (n) (if (less n 1) 0 (plus 1 (catch k (call f (minus n 1)))))) 5)", 15, 0),
    ("(call (rec f (n) (if (less n 1) 0 (plus 1 (catch k (do (cell k) (call f (minus n 1))))))) 5)", 15, 15),
]


def copies_by_the_frames(whole, given, most, moved):
    """How many frames are copied in a run, counted from the heap machine's frames ahead of each step."""
    heap = HeapRun(whole, given)
    many = 0
    for _ in range(most):
        place, frames = heap.machine.place, heap.machine.frames
        if heap.machine.stage == "begin" and place.word == "catch" and place.path not in moved:
            many += frames.many()
        elif heap.machine.stage == "begin" and place.word == "take":
            at = frames.mark_at(place.term[1])
            many += 0 if at is None else frames.many() - at - 1
        heap.go_on(1)
    return many


class Copies(Ends):
    def copied(self, whole, given=None, moves=False, many=20000):
        machine = PileRun(whole, given, moves=moves)
        machine.go_on(many)
        return machine.copied()

    def test_how_many(self):
        for text, copied, moved in COPIES:
            with self.subTest(term=text):
                whole = term(text)
                self.assertEqual(self.copied(whole), copied)
                self.assertEqual(self.copied(whole, moves=True), moved)
                self.assert_stops(whole)

    def test_in_the_midst_of_a_run(self):
        whole = term("(plus (catch j 1) (plus 2 (catch k 5)))")
        self.assertEqual([self.copied(whole, many=many) for many in range(9)], [0, 0, 1, 1, 1, 1, 3, 3, 3])
        whole = term("(mark t (plus 1 (take t k (plus (use k 2) (take t j 3)))))")
        # mark, plus, 1, take, plus, use, k, 2, take: the second one has plus alone inside its mark.
        self.assertEqual([self.copied(whole, many=many) for many in range(11)], [0, 0, 0, 0, 1, 1, 1, 1, 1, 2, 2])
        machine = PileRun(whole, None)
        told_one_by_one = []
        while not machine.go_on(1):
            told_one_by_one.append((machine.copied(), machine.copied()))
        self.assertEqual(told_one_by_one, [(0, 0), (0, 0), (0, 0)] + [(1, 1)] * 5 + [(2, 2)])

    def test_a_point_that_leads_to_a_catch_copies_again(self):
        text = (
            "(let p (cell none) (let n (cell 0) (do"
            "  (plus 1 (do (catch k (set p k)) (plus 2 (catch j (go j 1)))))"
            "  (set n (plus (get n) 1)) (if (less (get n) 3) (go (get p) 0) (get n)))))")
        # The first catch once with do, plus and do around it, the second one thrice with do, plus and plus.
        self.assertEqual(self.copied(term(text)), 3 + 9)
        self.assertEqual(self.copied(term(text), moves=True), 3)
        self.assert_end(text, "worth", "3")

    def test_of_terms_made_by_chance(self):
        for seed in range(300):
            whole, most = random_term(seed, 3 + seed % 5, parts=seed % 2 == 0), 150
            free = {path for path, at in escapes(whole) if at is None}
            with self.subTest(seed=seed):
                self.assertEqual(self.copied(whole, many=most), copies_by_the_frames(whole, None, most, ()))
                self.assertEqual(self.copied(whole, moves=True, many=most), copies_by_the_frames(whole, None, most, free))


class Moves(Ends):
    def test_by_its_name_alone(self):
        with self.assertRaises(TypeError):
            PileRun(("num", 1), None, True)
        for machine in (PileRun(given=1, moves=False, term=("name", "input")), PileRun(("name", "input"), 1)):
            self.assertIs(machine.go_on(many=1), True)
            self.assertEqual(told(machine.result()), ("worth", "1", [], "", 1, 0))
            self.assertIs(type(machine.result()), Result)
            self.assertEqual(machine.copied(), 0)

    def test_not_moved_where_not_told(self):
        for text, copied, moved in COPIES:
            machine = PileRun(term(text), None, moves=False)
            machine.go_on(20000)
            self.assertEqual(machine.copied(), copied)

    def test_out_of_winders_guards_and_marks(self):
        for text, worth, output, winds in (
            ("(plus 1 (catch k (wind (say 1) (wind (say 2) (go k 5) (say 3)) (say 4))))", "6", "1 2 3 4", "+1 +2 -2 -1"),
            ("(plus 1 (catch k (wind (go k 5) 1 2)))", "6", "", ""),
            ("(plus 1 (catch k (wind 0 1 (go k 5))))", "6", "", "+1 -1"),
            ("(plus 1 (catch k (wind 0 (fault 1) (go k 5))))", "6", "", "+1 -1"),
            ("(plus 1 (catch k (guard (mark t (fault 4)) x (go k x))))", "5", "", ""),
            ("(plus 1 (catch k (plus 2 (catch j (plus 4 (go k (plus 8 (go j 16))))))))", "19", "", ""),
        ):
            with self.subTest(term=text):
                self.assert_end(text, "worth", worth, output, winds)
                self.assert_stops(text)

    def test_a_moved_catch_that_is_led_into_again(self):
        # j is copied and led to from outside; k is moved, and its frames lie there again when it is gone to.
        text = (
            "(let p (cell none) (let n (cell 0) (do"
            "  (say (plus 100 (catch k (wind (say 1) (plus 10 (do (catch j (set p j)) (go k (get n)))) (say 2)))))"
            "  (set n (plus (get n) 1)) (if (less (get n) 3) (go (get p) 0) (get n)))))")
        self.assert_end(text, "worth", "3", "1 2 100 1 2 101 1 2 102", "+1 -1 +1 -1 +1 -1")
        self.assert_stops(text)

    def test_a_moved_point_in_the_parts_of_leaps(self):
        # The leap in and the leap out meet the moved point's frames, however they came there.
        text = (
            "(let p (cell none) (let n (cell 0) (do"
            "  (say (plus 100 (catch k"
            "    (wind (if (less (get n) 2) 0 (go k 7)) (do (catch j (set p j)) (get n)) (if (less (get n) 1) (go k 8) 0)))))"
            "  (set n (plus (get n) 1)) (if (less (get n) 4) (go (get p) 0) (get n)))))")
        self.assert_end(text, "worth", "4", "108 101 107 107", "+1 -1 +1 -1")
        self.assert_stops(text)

    def test_terms_made_by_chance_without_takes(self):
        moved = 0
        for seed in range(400):
            whole = random_term(seed, 3 + seed % 5, parts=False)
            most = [400, 2000, 37][seed % 3]
            stop = told(run(whole, seed, most=most))
            size = 1 + seed % 13
            pieces = [size] * (most // size) + [most % size]
            machine = PileRun(whole, seed, moves=True)
            with self.subTest(seed=seed):
                self.assertEqual(gone_on(machine, pieces), stop)
            other = PileRun(whole, seed)
            other.go_on(most)
            moved += machine.copied() < other.copied()
        self.assertGreater(moved, 100)


if __name__ == "__main__":
    unittest.main()
