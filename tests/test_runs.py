"""Promises 2, 7, 17 and 18: how runs are asked for, what they refuse, and that they share nothing."""

import unittest

from tests.ends import MAKERS, Ends, gone_on, told
from tests.random_terms import random_term
from tests.reading import term
from tests.refusals import Refusing
from windpoints.heap import HeapRun
from windpoints.plain import run
from windpoints.results import Result
from windpoints.terms import paths
from windpoints.worths import Pair, chain

COUNTING = (
    "(let c (cell 0) (call (rec f (n) (if (less n 1) (get c)"
    "  (do (wind (say n) (set c (plus (get c) n)) 0) (call f (minus n 1))))) 4))")
GIVENS = [5, "a b", Pair(1, Pair("b", None)), None, True]


def runners():
    """Each way to make a run of a term and a worth."""
    return [run, *MAKERS.values()]


class Refusals(Refusing, unittest.TestCase):
    def asked(self):
        return [lambda whole, maker=maker: maker(whole, None) for maker in runners()]


class Asking(Ends):
    def test_by_places_and_by_names(self):
        whole = term("(plus input 1)")
        self.assertEqual(told(run(given=4, term=whole)), told(run(whole, 4)))
        self.assertEqual(told(run(most=1, given=4, term=whole)), told(run(whole, 4, most=1)))
        machine = HeapRun(given=4, term=whole)
        self.assertIs(machine.go_on(many=2), False)
        self.assertEqual(told(machine.result()), told(run(whole, 4, most=2)))

    def test_most_by_its_name_alone(self):
        with self.assertRaises(TypeError):
            run(("num", 1), None, 5)

    def test_a_result(self):
        for result in (run(("num", 1), None), HeapRun(("num", 1), None).result()):
            self.assertIs(type(result), Result)
            self.assertEqual(set(vars(result)), {"kind", "worth", "output", "winds", "steps", "height"})
            self.assertIs(type(result.output), list)
            self.assertIs(type(result.winds), list)
            for other in (1, "worth", None, (), [], {}, object()):
                self.assertFalse(result == other)

    def test_a_row_of_winders_has_tuples_of_a_text_and_a_number(self):
        self.assertEqual(run(term("(wind 1 2 3)"), None).winds, [("in", 1), ("out", 1)])

    def test_asked_again_the_same_is_told(self):
        for text in (COUNTING, "(fault (wind 1 2 3))", "(catch k (wind 0 (go k 1) 2))"):
            whole = term(text)
            self.assertEqual(told(run(whole, None)), told(run(whole, None)))

    def test_a_results_lists_are_the_askers_own(self):
        whole = term(COUNTING)
        for maker in MAKERS.values():
            machine = maker(whole, None)
            machine.go_on(25)
            stop = told(machine.result())
            self.assertTrue(stop[2] and stop[3])
            result = machine.result()
            result.output.clear()
            result.winds.append(("in", 99))
            result.steps = 0
            self.assertEqual(told(machine.result()), stop)
            # What was told ahead is not changed by going on.
            earlier = machine.result()
            machine.go_on(20000)
            self.assertEqual(told(earlier), stop)
            self.assertEqual(told(machine.result()), told(run(whole, None)))
        first = run(whole, None)
        first.output.clear()
        first.winds.clear()
        self.assertEqual(run(whole, None).output, ["4", "3", "2", "1"])

    def test_nothing_handed_in_is_changed(self):
        given = Pair(Pair(1, 2), chain([3, 4]))
        whole = term("(do (set (cell input) 5) (say input) (pair (first input) (rest input)))")
        again = term("(do (set (cell input) 5) (say input) (pair (first input) (rest input)))")
        for maker in runners():
            told_one = maker(whole, given)
            if told_one.__class__ is not Result:
                told_one.go_on(50)
            self.assertEqual(whole, again)
            self.assertEqual(given, Pair(Pair(1, 2), chain([3, 4])))


class Pieces(Ends):
    def test_runs_beside_each_other_share_nothing(self):
        whole = term(COUNTING)
        end = told(run(whole, None))
        for maker in MAKERS.values():
            one, two = maker(whole, None), maker(whole, None)
            for many in (3, 1, 7, 0, 30):
                one.go_on(many)
            self.assertEqual(told(two.result()), ("steps", None, [], "", 0, 0))
            stop = told(one.result())
            two.go_on(20000)
            self.assertEqual(told(one.result()), stop)
            self.assertEqual(told(two.result()), end)
            one.go_on(20000)
            self.assertEqual(told(one.result()), end)

    def test_gone_on_at_its_end_it_stays(self):
        for text in ("5", "(fault 5)", COUNTING):
            end = told(run(term(text), None))
            for maker in MAKERS.values():
                machine = maker(term(text), None)
                self.assertIs(machine.go_on(20000), True)
                for many in (0, 1, 20000):
                    self.assertIs(machine.go_on(many), True)
                    self.assertEqual(told(machine.result()), end)

    def test_no_step_done(self):
        for maker in MAKERS.values():
            machine = maker(("num", 5), None)
            self.assertEqual(told(machine.result()), ("steps", None, [], "", 0, 0))
            self.assertIs(machine.go_on(0), False)
            self.assertEqual(told(machine.result()), ("steps", None, [], "", 0, 0))
            self.assertIs(machine.go_on(1), True)
            self.assertEqual(told(machine.result()), ("worth", "5", [], "", 1, 0))

    def test_terms_made_by_chance_at_each_stop(self):
        many = 0
        for seed in range(30):
            whole, given = random_term(seed, 3 + seed % 4), GIVENS[seed % 5]
            if run(whole, given, most=300).kind != "steps":
                many += 1
                with self.subTest(seed=seed):
                    self.assert_stops(whole, given)
        self.assertGreater(many, 15)

    def test_terms_made_by_chance_in_pieces(self):
        for seed in range(30, 300):
            whole, given = random_term(seed, 3 + seed % 5), GIVENS[seed % 5]
            most = [400, 4000, 37][seed % 3]
            result = run(whole, given, most=most)
            if result.kind != "steps":
                self.assert_left(result.winds)
            size = 1 + seed % 11
            pieces = [size] * (most // size) + [most % size]
            for name, maker in MAKERS.items():
                with self.subTest(seed=seed, machine=name):
                    self.assertEqual(gone_on(maker(whole, given), pieces), told(result))

    def test_the_greatest_terms_and_worths(self):
        row = "(do " + " ".join(["(plus input 1)"] * 12) + ")"
        whole = term("(do " + " ".join([row] * 10) + ")")
        self.assertEqual(len(paths(whole)), 371)
        self.assert_end(whole, "worth", "6", steps=371, height=3, given=5)
        worth = None
        for number in range(30):
            worth = Pair(worth, chain([number] * 12))
        self.assert_end("(kind (pair 1 input))", "worth", '"pair"', given=worth)

    def test_twenty_thousand_steps(self):
        whole = term("(let c (cell 0) (call (rec f () (do (wind 0 (catch k (go k 1)) 0) (set c (plus (get c) 1)) (call f)))))")
        result = run(whole, None, most=20000)
        self.assertEqual((result.kind, result.steps), ("steps", 20000))
        for maker in MAKERS.values():
            self.assertEqual(gone_on(maker(whole, None), [9999, 1, 10000]), told(result))

    def test_thousands_of_points_each_with_thousands_of_frames(self):
        whole = term("(call (rec f (n) (if (less n 1) 0 (plus 1 (catch k (call f (minus n 1)))))) 1400)")
        result = run(whole, None, most=20000)
        self.assertEqual(told(result)[:2], ("worth", "1400"))
        self.assert_machines(whole, None, told(result))


if __name__ == "__main__":
    unittest.main()
