"""Promise 26: trace, is_trace and first_wrong."""

import unittest

from tests.random_terms import random_term
from tests.reading import term
from tests.refusals import Refusing
from tests.samples import MAKERS, deep, good
from windpoints.heap import HeapRun
from windpoints.plain import MOST, run
from windpoints.terms import part_at, paths
from windpoints.traces import first_wrong, is_trace, trace
from windpoints.winders import left_in
from windpoints.worths import Pair

WINDING = (
    "(let p (cell none) (let n (cell 0) (do (wind (say 1) (catch k (set p k)) (say 2))"
    "  (set n (plus (get n) 1)) (if (less (get n) 2) (go (get p) 0) (get n)))))")
TAKING = "(mark t (wind (say 1) (do (take t k (do (use k 5) (use k 6))) (say 3)) (say 2)))"


class Traces(unittest.TestCase):
    def assert_trace(self, text, *rows, given=None):
        """Check a trace, rows written as (path's numbers in a text, height, many, ids)."""
        told = trace(term(text), given)
        self.assertEqual(told, [(tuple(int(sign) for sign in path), *rest) for path, *rest in rows])

    def assert_agrees(self, whole, given, most=1000):
        """Check a trace against what is told of each number of steps."""
        told = trace(whole, given, most=most)
        end = run(whole, given, most=most)
        self.assertEqual(len(told), end.steps)
        self.assertEqual(max([height for path, height, many, ids in told], default=0), end.height)
        all_paths = set(paths(whole))
        machine = HeapRun(whole, given)
        for path, height, many, ids in told:
            self.assertIn(path, all_paths)
            stop = machine.result()
            self.assertEqual((many, ids), (len(stop.output), tuple(left_in(stop.winds))))
            machine.go_on(1)
            self.assertEqual(max(stop.height, height), machine.result().height)
        return told


class Trace(Traces):
    def test_atoms(self):
        for text in ("1", '"a"', "yes", "no", "none", "input", "(fun (x) x)", "(rec f (x) x)"):
            self.assert_trace(text, ("", 0, 0, ()))

    def test_parts_and_heights(self):
        self.assert_trace("(plus (plus 1 2) 3)", ("", 0, 0, ()), ("0", 1, 0, ()), ("00", 2, 0, ()), ("01", 2, 0, ()),
                          ("1", 1, 0, ()))
        self.assert_trace("(if no 1 (do 2 3))", ("", 0, 0, ()), ("0", 1, 0, ()), ("2", 0, 0, ()), ("20", 1, 0, ()),
                          ("21", 0, 0, ()))
        self.assert_trace("(let f (fun (x) (say x)) (call f 7))", ("", 0, 0, ()), ("0", 1, 0, ()), ("1", 0, 0, ()),
                          ("10", 1, 0, ()), ("11", 1, 0, ()), ("00", 0, 0, ()), ("000", 1, 0, ()))

    def test_how_many_texts(self):
        self.assert_trace("(do (say 1) (say 2) 3)", ("", 0, 0, ()), ("0", 1, 0, ()), ("00", 2, 0, ()), ("1", 1, 1, ()),
                          ("10", 2, 1, ()), ("2", 0, 2, ()))

    def test_a_wind(self):
        self.assert_trace("(wind (say 1) (say 2) (say 3))", ("", 0, 0, ()), ("0", 1, 0, ()), ("00", 2, 0, ()),
                          ("1", 1, 1, (1,)), ("10", 2, 1, (1,)), ("2", 1, 2, ()), ("20", 2, 2, ()))
        self.assert_trace("(wind 0 (wind 1 2 3) 4)", ("", 0, 0, ()), ("0", 1, 0, ()), ("1", 1, 0, (1,)),
                          ("10", 2, 0, (1,)), ("11", 2, 0, (1, 2)), ("12", 2, 0, (1,)), ("2", 1, 0, ()))

    def test_parts_that_a_leap_runs(self):
        self.assert_trace("(catch k (wind 0 (wind 1 (go k 2) 3) 4))", ("", 0, 0, ()), ("0", 0, 0, ()), ("00", 1, 0, ()),
                          ("01", 1, 0, (1,)), ("010", 2, 0, (1,)), ("011", 2, 0, (1, 2)), ("0110", 3, 0, (1, 2)),
                          ("0111", 3, 0, (1, 2)), ("012", 2, 0, (1,)), ("02", 1, 0, ()))
        self.assert_trace("(guard (wind 0 (fault 1) (say 2)) x x)", ("", 0, 0, ()), ("0", 1, 0, ()), ("00", 2, 0, ()),
                          ("01", 2, 0, (1,)), ("010", 3, 0, (1,)), ("02", 2, 0, ()), ("020", 3, 0, ()), ("1", 0, 1, ()))

    def test_behind_a_parts_use(self):
        # mark, wind and do are begun; take leaves winder 1; each use goes in as a new one.
        told = trace(term(TAKING), None)
        self.assertEqual([ids for path, height, many, ids in told if path == (0, 1, 1)], [(2,), (3,)])
        self.assertEqual([ids for path, height, many, ids in told if path == (0, 0)], [()] * 3)
        self.assertEqual([ids for path, height, many, ids in told if path == (0, 2)], [()] * 3)
        self.assertEqual([height for path, height, many, ids in told if path == (0, 1, 1)], [4, 3])

    def test_going_in_again(self):
        told = self.assert_agrees(term(WINDING), None)
        self.assertEqual([ids for path, height, many, ids in told if path == (1, 1, 0, 0)], [(), ()])
        self.assertEqual([ids for path, height, many, ids in told if path == (1, 1, 0, 2)], [(), ()])

    def test_most(self):
        whole = term(WINDING)
        told = trace(whole, None)
        for most in range(len(told) + 3):
            self.assertEqual(trace(whole, None, most=most), told[:most])
        self.assertEqual(trace(whole, None, most=20000), told)
        loop = term("(call (rec f () (call f)))")
        self.assertEqual(len(trace(loop, None)), MOST)
        self.assertEqual(len(trace(loop, None, most=20000)), 20000)

    def test_each_kind(self):
        for kind in MAKERS:
            for given in (None, 5, Pair(1, 2)):
                with self.subTest(kind=kind):
                    self.assert_agrees(good(kind), given)

    def test_terms_made_by_chance(self):
        for seed in range(150):
            with self.subTest(seed=seed):
                self.assert_agrees(random_term(seed, 3 + seed % 4), [5, None, Pair(1, 2)][seed % 3])

    def test_the_whole_paths(self):
        whole = deep(250, term("(call (fun (x) (say x)) 5)"))
        told = trace(whole, None)
        self.assertEqual(told[-1], ((1,) * 250 + (0, 0, 0), 1, 0, ()))
        self.assertEqual(part_at(whole, told[-1][0]), ("name", "x"))

    def test_many_winders(self):
        whole = term("(call (rec f (n) (if (less n 1) 0 (wind 0 (call f (minus n 1)) 0))) 300)")
        told = trace(whole, None)
        self.assertEqual(max(len(ids) for path, height, many, ids in told), 300)
        self.assertEqual(told[-1][3], ())

    def test_the_askers_own(self):
        whole = term(WINDING)
        told = trace(whole, None)
        kept = list(told)
        told.clear()
        self.assertEqual(trace(term=whole, given=None), kept)
        self.assertEqual(trace(given=None, most=3, term=whole), kept[:3])
        for row in kept:
            self.assertEqual([type(thing) for thing in row], [tuple, int, int, tuple])

    def test_most_by_its_name_alone(self):
        for asked in (trace, lambda *things: is_trace(*things[:2], [], things[2]),
                      lambda *things: first_wrong(*things[:2], [], things[2])):
            with self.assertRaises(TypeError):
                asked(("num", 1), None, 5)


class Judging(Traces):
    def assert_wrong(self, whole, thing, at, **more):
        self.assertIs(is_trace(whole, None, thing, **more), at is None)
        self.assertEqual(first_wrong(whole, None, thing, **more), at)

    def test_the_trace_itself(self):
        for text in ("1", WINDING, TAKING):
            whole = term(text)
            self.assert_wrong(whole, trace(whole, None), None)
            for most in (0, 1, 2, 100):
                self.assert_wrong(whole, trace(whole, None, most=most), None, most=most)
        for seed in range(40):
            whole = random_term(seed, 4)
            self.assert_wrong(whole, trace(whole, None, most=500), None, most=500)

    def test_one_row_left_out_told_twice_cut_off_or_more(self):
        whole = term(TAKING)
        told = trace(whole, None)
        for at in range(len(told)):
            # No two rows beside each other are the same here.
            self.assert_wrong(whole, told[:at] + told[at + 1:], at)
            self.assert_wrong(whole, told[:at + 1] + told[at:], at + 1)
            self.assert_wrong(whole, told[:at], at)
            if at + 1 < len(told):
                self.assert_wrong(whole, told[:at] + [told[at + 1], told[at]] + told[at + 2:], at)
        self.assert_wrong(whole, told + told[:1], len(told))
        self.assert_wrong(whole, told + [None], len(told))
        self.assert_wrong(whole, told + told, len(told))
        self.assert_wrong(whole, [], 0)

    def test_the_trace_of_another_bound(self):
        whole = term(TAKING)
        told = trace(whole, None)
        self.assert_wrong(whole, told, 5, most=5)
        self.assert_wrong(whole, told[:5], 5)
        self.assert_wrong(whole, told, 0, most=0)
        self.assert_wrong(whole, [], None, most=0)
        self.assert_wrong(whole, told, None, most=len(told))
        self.assert_wrong(whole, told, None, most=len(told) + 1)

    def test_each_number_one_more_or_less(self):
        whole = term(TAKING)
        told = trace(whole, None)
        for at, (path, height, many, ids) in enumerate(told):
            others = [(path, height + 1, many, ids), (path, height - 1, many, ids), (path, height, many + 1, ids),
                      (path, height, many - 1, ids), (path + (0,), height, many, ids), (path, height, many, ids + (9,))]
            for place in range(len(path)):
                others.append((path[:place] + (path[place] + 1,) + path[place + 1:], height, many, ids))
            for place in range(len(ids)):
                others.append((path, height, many, ids[:place] + (ids[place] + 1,) + ids[place + 1:]))
            for other in others:
                self.assert_wrong(whole, told[:at] + [other] + told[at + 1:], at)

    def test_truths_for_numbers(self):
        whole = term("(do (say 1) (wind 0 (say 2) 3) 4)")
        told = trace(whole, None)
        # do, say, 1, wind, 0, say, 2, 3, 4
        self.assertEqual(told[5], ((1, 1), 2, 1, (1,)))
        for other in (((True, 1), 2, 1, (1,)), ((1, True), 2, 1, (1,)), ((1, 1), 2, True, (1,)), ((1, 1), 2, 1, (True,))):
            self.assert_wrong(whole, told[:5] + [other] + told[6:], 5)
        for other in (((), False, 0, ()), ((), 0, False, ())):
            self.assert_wrong(whole, [other] + told[1:], 0)
        for other in (((False,), 1, 0, ()), ((0,), True, 0, ())):
            self.assert_wrong(whole, told[:1] + [other] + told[2:], 1)

    def test_other_things_for_rows(self):
        whole = term(TAKING)
        told = trace(whole, None)
        path, height, many, ids = told[4]
        for other in (
            [path, height, many, ids], (list(path), height, many, ids), (path, height, many, list(ids)), None, 5, True, "",
            "row", (), [], {}, (path, height, many), (path, height, many, ids, ids), (path, None, many, ids),
            (path, height, "0", ids), (None, height, many, ids), (path, height, many, None), (5, height, many, ids),
            (path, height, many, 1), ((None,), height, many, ids), (path, [height], many, ids), (path,), {4: told[4]},
        ):
            with self.subTest(other=other):
                self.assert_wrong(whole, told[:4] + [other] + told[5:], 4)

    def test_other_things_for_the_list(self):
        whole = term(TAKING)
        told = trace(whole, None)
        for thing in (tuple(told), None, 0, 5, True, False, "", "trace", (), {}, dict(enumerate(told)), [told], told[0]):
            self.assertIs(is_trace(whole, None, thing), False)
        self.assertIs(is_trace(whole, None, (), most=0), False)

    def test_of_another_worth(self):
        whole = term("(if (less input 5) (say 1) 2)")
        self.assertEqual(first_wrong(whole, 4, trace(whole, 9)), 4)
        self.assertIs(is_trace(whole, 4, trace(whole, 9)), False)
        self.assertIs(is_trace(whole, 4, trace(whole, 3)), True)

    def test_nothing_handed_in_is_changed_and_by_names(self):
        whole = term(TAKING)
        told = trace(whole, None)
        thing = list(told)
        self.assertIs(is_trace(thing=thing, given=None, term=whole, most=MOST), True)
        self.assertIsNone(first_wrong(rows=thing, given=None, term=whole, most=MOST))
        self.assertEqual(first_wrong(rows=thing, most=2, given=None, term=whole), 2)
        self.assertEqual(thing, told)


class Refusals(Refusing, unittest.TestCase):
    def asked(self):
        return [
            lambda whole: trace(whole, None), lambda whole: trace(whole, None, most=0),
            lambda whole: is_trace(whole, None, []), lambda whole: is_trace(whole, None, 5, most=0),
            lambda whole: is_trace(whole, None, None), lambda whole: first_wrong(whole, None, []),
            lambda whole: first_wrong(whole, None, [], most=0)]


if __name__ == "__main__":
    unittest.main()
