"""Promises 24 and 24a: flows and is_closed."""

import unittest

from tests.plain_flows import plain_flows
from tests.random_terms import random_term
from tests.reading import term
from tests.refusals import Refusing
from tests.samples import MAKERS, deep, good
from windpoints.flows import flows, is_closed
from windpoints.heap import HeapFrames
from windpoints.leaping import Leaper
from windpoints.machine import take_step
from windpoints.plain import run
from windpoints.terms import part_at, paths
from windpoints.worths import Cell, Fun, Pair, Part, Point, chain

INPUT = ("input",)
WORDS = {"fun": "fun", "rec": "fun", "cell": "cell", "catch": "point", "take": "part"}


def fun(*path):
    return ("fun", path)


def cell(*path):
    return ("cell", path)


def pair(*path):
    return ("pair", path)


def point(*path):
    return ("point", path)


def part(*path):
    return ("part", path)


def origins_of(whole):
    """All origins of a term."""
    told = [INPUT]
    for path in paths(whole):
        inner = part_at(whole, path)
        if inner[0] in WORDS:
            told.append((WORDS[inner[0]], path))
        elif inner[:2] == ("op", "pair"):
            told.append(("pair", path))
    return told


class Flows(unittest.TestCase):
    def assert_flows(self, text, table):
        """Check a table but for the paths with an empty list, which are left out in what is handed in."""
        whole = term(text)
        told = flows(whole)
        self.assertEqual(list(told), paths(whole))
        self.assertEqual({path: told[path] for path in told if told[path]}, table)
        for path in told:
            self.assertIs(type(told[path]), list)
        self.assertEqual(plain_flows(whole), told)
        self.assert_least(whole, told)

    def assert_least(self, whole, told):
        """Check that a table is closed, and no longer so with any one origin left out."""
        self.assertIs(is_closed(whole, told), True)
        for path in told:
            for at in range(len(told[path])):
                lesser = {other: list(told[other]) for other in told}
                del lesser[path][at]
                self.assertIs(is_closed(whole, lesser), False)


class Rules(Flows):
    def test_nothing(self):
        for text in (
            "1", '"a"', "yes", "no", "none", "(say 1)", "(fault 1)", "(set 1 2)", "(go 1 2)", "(use 1 2)", "(get 1)",
            "(call 1 2)", "(plus 1 2)", "(first 1)", "(rest 1)", "(kind 1)", "(mark t 1)", "(wind 1 2 3)", "(take t k 1)",
            "(catch k 1)", "(if 1 2 3)", "(do 1 2)", "(let x 1 x)", "(guard 1 x x)",
        ):
            self.assert_flows(text, {})

    def test_own_origins(self):
        self.assert_flows("(fun () 1)", {(): [fun()]})
        self.assert_flows("(rec f (x) 1)", {(): [fun()]})
        self.assert_flows("(cell 1)", {(): [cell()]})
        self.assert_flows("(pair 1 2)", {(): [pair()]})
        self.assert_flows("(plus (fun () (cell 1)) (pair 1 (rec f () 2)))", {
            (0,): [fun(0)], (0, 0): [cell(0, 0)], (1,): [pair(1)], (1, 1): [fun(1, 1)]})

    def test_a_name_that_nothing_binds(self):
        self.assert_flows("input", {(): [INPUT]})
        self.assert_flows("(do (let input 1 2) input)", {(): [INPUT], (1,): [INPUT]})

    def test_ops_but_first_and_rest_tell_none(self):
        for word in ("plus", "minus", "times", "less", "same", "joined"):
            self.assert_flows(f"({word} input (cell 1))", {(0,): [INPUT], (1,): [cell(1)]})
        for word in ("kind", "written"):
            self.assert_flows(f"({word} (pair 1 2))", {(0,): [pair(0)]})

    def test_say_fault_set_and_go_tell_none(self):
        self.assert_flows("(say input)", {(0,): [INPUT]})
        self.assert_flows("(fault input)", {(0,): [INPUT]})
        self.assert_flows("(set input (cell 1))", {(0,): [INPUT], (1,): [cell(1)]})
        self.assert_flows("(go input (cell 1))", {(0,): [INPUT], (1,): [cell(1)]})

    def test_let(self):
        self.assert_flows("(let x (cell 1) x)", {(): [cell(0)], (0,): [cell(0)], (1,): [cell(0)]})
        self.assert_flows("(let x (cell 1) 2)", {(0,): [cell(0)]})
        self.assert_flows("(let x input (let x (cell 1) x))", {
            (): [cell(1, 0)], (0,): [INPUT], (1,): [cell(1, 0)], (1, 0): [cell(1, 0)], (1, 1): [cell(1, 0)]})
        # The first part is not yet in the name's reach.
        self.assert_flows("(let x input (let x x x))", {
            (): [INPUT], (0,): [INPUT], (1,): [INPUT], (1, 0): [INPUT], (1, 1): [INPUT]})

    def test_if_do_guard_and_wind(self):
        self.assert_flows("(if (cell 1) (fun () 1) input)", {
            (): [fun(1), INPUT], (0,): [cell(0)], (1,): [fun(1)], (2,): [INPUT]})
        self.assert_flows("(do (cell 1) (cell 2) input)", {
            (): [INPUT], (0,): [cell(0)], (1,): [cell(1)], (2,): [INPUT]})
        self.assert_flows("(do input)", {(): [INPUT], (0,): [INPUT]})
        self.assert_flows("(guard (cell 1) x input)", {(): [cell(0), INPUT], (0,): [cell(0)], (1,): [INPUT]})
        self.assert_flows("(wind (cell 1) (cell 2) (cell 3))", {
            (): [cell(1)], (0,): [cell(0)], (1,): [cell(1)], (2,): [cell(2)]})

    def test_a_functions_names(self):
        self.assert_flows("(call (fun (x) x) input)", {(): [INPUT], (0,): [fun(0)], (0, 0): [INPUT], (1,): [INPUT]})
        self.assert_flows("(call (fun (x y) y) input (cell 1))", {
            (): [cell(2)], (0,): [fun(0)], (0, 0): [cell(2)], (1,): [INPUT], (2,): [cell(2)]})
        self.assert_flows("(call (rec f (x y) x) input (cell 1))", {
            (): [INPUT], (0,): [fun(0)], (0, 0): [INPUT], (1,): [INPUT], (2,): [cell(2)]})
        self.assert_flows("(call (fun () input))", {(): [INPUT], (0,): [fun(0)], (0, 0): [INPUT]})
        # Not called at all.
        self.assert_flows("(fun (x) x)", {(): [fun()]})

    def test_a_call_with_another_number_of_worths(self):
        self.assert_flows("(call (fun (x) (do x input)))", {(0,): [fun(0)], (0, 0): [INPUT], (0, 0, 1): [INPUT]})
        self.assert_flows("(call (fun (x) (do x input)) input input)", {
            (0,): [fun(0)], (0, 0): [INPUT], (0, 0, 1): [INPUT], (1,): [INPUT], (2,): [INPUT]})
        self.assert_flows("(call (fun () input) 1)", {(0,): [fun(0)], (0, 0): [INPUT]})
        # Each function by itself.
        self.assert_flows("(call (if yes (fun (x) x) (fun () (cell 1))) input)", {
            (): [INPUT], (0,): [fun(0, 1), fun(0, 2)], (0, 1): [fun(0, 1)], (0, 1, 0): [INPUT],
            (0, 2): [fun(0, 2)], (0, 2, 0): [cell(0, 2, 0)], (1,): [INPUT]})

    def test_recs_own_name(self):
        self.assert_flows("(rec f (x) f)", {(): [fun()], (0,): [fun()]})
        self.assert_flows("(rec f () (fun (f) f))", {(): [fun()], (0,): [fun(0)]})
        self.assert_flows("(call (rec f (x) (if x (call f (cell 1)) x)) input)", {
            (): [cell(0, 0, 1, 1), INPUT], (0,): [fun(0)], (0, 0): [cell(0, 0, 1, 1), INPUT],
            (0, 0, 0): [cell(0, 0, 1, 1), INPUT], (0, 0, 1): [cell(0, 0, 1, 1), INPUT], (0, 0, 1, 0): [fun(0)],
            (0, 0, 1, 1): [cell(0, 0, 1, 1)], (0, 0, 2): [cell(0, 0, 1, 1), INPUT], (1,): [INPUT]})

    def test_faults_flow_to_each_guards_name(self):
        self.assert_flows("(do (guard 1 x x) (guard 2 y y) (fault (cell 1)) (fun () (fault input)))", {
            (): [fun(3)], (0,): [cell(2, 0), INPUT], (0, 1): [cell(2, 0), INPUT], (1,): [cell(2, 0), INPUT],
            (1, 1): [cell(2, 0), INPUT], (2, 0): [cell(2, 0)], (3,): [fun(3)], (3, 0, 0): [INPUT]})
        # Also a fault in the guard's own second part, and the worth of the fault itself is none.
        self.assert_flows("(guard 1 x (fault x))", {})
        self.assert_flows("(guard input x (fault (cell x)))", {
            (): [INPUT], (0,): [INPUT], (1, 0): [cell(1, 0)], (1, 0, 0): [cell(1, 0)]})

    def test_points(self):
        self.assert_flows("(catch k k)", {(): [point()], (0,): [point()]})
        self.assert_flows("(catch k (go k input))", {(): [INPUT], (0, 0): [point()], (0, 1): [INPUT]})
        self.assert_flows("(catch k (let j k (do (go j input) (cell 1))))", {
            (): [cell(0, 1, 1), INPUT], (0,): [cell(0, 1, 1)], (0, 0): [point()], (0, 1): [cell(0, 1, 1)],
            (0, 1, 0, 0): [point()], (0, 1, 0, 1): [INPUT], (0, 1, 1): [cell(0, 1, 1)]})
        # A go elsewhere in the term, to a point that comes by a cell.
        self.assert_flows("(let c (cell none) (do (catch k (set c k)) (go (get c) (fun () 1))))", {
            (0,): [cell(0)], (1, 0): [fun(1, 1, 1)], (1, 0, 0, 0): [cell(0)], (1, 0, 0, 1): [point(1, 0)],
            (1, 1, 0): [point(1, 0)], (1, 1, 0, 0): [cell(0)], (1, 1, 1): [fun(1, 1, 1)]})
        # A go to what is none of its points flows to no catch.
        self.assert_flows("(do (catch k 1) (catch k (catch j (go k input))))", {
            (): [INPUT], (1,): [INPUT], (1, 0, 0, 0): [point(1)], (1, 0, 0, 1): [INPUT]})

    def test_marks_and_takes(self):
        self.assert_flows("(mark t input)", {(): [INPUT], (0,): [INPUT]})
        # What a take's part has flows to the mark, not to the take.
        self.assert_flows("(mark t (say (take t k input)))", {(): [INPUT], (0, 0, 0): [INPUT]})
        self.assert_flows("(take t k k)", {(0,): [part()]})
        self.assert_flows("(mark t (take s k input))", {(0, 0): [INPUT]})
        # Marks and takes of like tags, wherever they stand.
        self.assert_flows("(do (mark t 1) (mark t 2) (mark s 3) (fun () (take t k input)) (take s k (cell 1)) 0)", {
            (0,): [INPUT], (1,): [INPUT], (2,): [cell(4, 0)], (3,): [fun(3)], (3, 0, 0): [INPUT], (4, 0): [cell(4, 0)]})

    def test_uses(self):
        self.assert_flows("(mark t (take t k (use k input)))", {
            (): [INPUT], (0,): [INPUT], (0, 0): [INPUT], (0, 0, 0): [part(0)], (0, 0, 1): [INPUT]})
        self.assert_flows("(mark t (do (take t k (use k (cell 1))) input))", {
            (): [INPUT], (0,): [INPUT], (0, 0): [cell(0, 0, 0, 1)], (0, 0, 0): [INPUT], (0, 0, 0, 0): [part(0, 0)],
            (0, 0, 0, 1): [cell(0, 0, 0, 1)], (0, 1): [INPUT]})
        # To a use flows what all marks and takes of the part's tag have, of no other.
        self.assert_flows(
            "(let p (cell none) (do (mark t (take t k (set p k))) (mark t (cell 1)) (mark s (cell 2)) (take t j (cell 3))"
            " (take s j (cell 4)) (use (get p) 5)))", {
                (): [cell(1, 1, 0), cell(1, 3, 0)], (0,): [cell(0)], (1,): [cell(1, 1, 0), cell(1, 3, 0)],
                (1, 0): [cell(1, 3, 0)], (1, 0, 0, 0, 0): [cell(0)], (1, 0, 0, 0, 1): [part(1, 0, 0)],
                (1, 1): [cell(1, 1, 0), cell(1, 3, 0)], (1, 1, 0): [cell(1, 1, 0)],
                (1, 2): [cell(1, 2, 0), cell(1, 4, 0)], (1, 2, 0): [cell(1, 2, 0)], (1, 3, 0): [cell(1, 3, 0)],
                (1, 4, 0): [cell(1, 4, 0)], (1, 5): [cell(1, 1, 0), cell(1, 3, 0)], (1, 5, 0): [part(1, 0, 0)],
                (1, 5, 0, 0): [cell(0)]})
        # A use of what is no part.
        self.assert_flows("(do (mark t input) (take t k 1) (use input (cell 1)))", {
            (0,): [INPUT], (0, 0): [INPUT], (2, 0): [INPUT], (2, 1): [cell(2, 1)]})

    def test_cells(self):
        self.assert_flows("(get (cell input))", {(): [INPUT], (0,): [cell(0)], (0, 0): [INPUT]})
        self.assert_flows("(let c (cell 1) (do (set c input) (get c)))", {
            (): [INPUT], (0,): [cell(0)], (1,): [INPUT], (1, 0, 0): [cell(0)], (1, 0, 1): [INPUT], (1, 1): [INPUT],
            (1, 1, 0): [cell(0)]})
        # A set of another cell, and a get ahead of the set and elsewhere.
        self.assert_flows("(let c (cell 1) (let d (cell 2) (do (get c) (get d) (fun () (set d input)))))", {
            (): [fun(1, 1, 2)], (0,): [cell(0)], (1,): [fun(1, 1, 2)], (1, 0): [cell(1, 0)], (1, 1): [fun(1, 1, 2)],
            (1, 1, 0, 0): [cell(0)], (1, 1, 1): [INPUT], (1, 1, 1, 0): [cell(1, 0)], (1, 1, 2): [fun(1, 1, 2)],
            (1, 1, 2, 0, 0): [cell(1, 0)], (1, 1, 2, 0, 1): [INPUT]})
        # A cell in a cell, and a cell that holds itself.
        self.assert_flows("(get (get (cell (cell input))))", {
            (): [INPUT], (0,): [cell(0, 0, 0)], (0, 0): [cell(0, 0)], (0, 0, 0): [cell(0, 0, 0)], (0, 0, 0, 0): [INPUT]})
        self.assert_flows("(let c (cell 1) (do (set c c) (get (get c))))", {
            (): [cell(0)], (0,): [cell(0)], (1,): [cell(0)], (1, 0, 0): [cell(0)], (1, 0, 1): [cell(0)],
            (1, 1): [cell(0)], (1, 1, 0): [cell(0)], (1, 1, 0, 0): [cell(0)]})

    def test_pairs(self):
        self.assert_flows("(first (pair (cell 1) input))", {
            (): [cell(0, 0)], (0,): [pair(0)], (0, 0): [cell(0, 0)], (0, 1): [INPUT]})
        self.assert_flows("(rest (pair (cell 1) input))", {
            (): [INPUT], (0,): [pair(0)], (0, 0): [cell(0, 0)], (0, 1): [INPUT]})
        self.assert_flows("(first input)", {(): [INPUT], (0,): [INPUT]})
        self.assert_flows("(rest (first input))", {(): [INPUT], (0,): [INPUT], (0, 0): [INPUT]})
        self.assert_flows("(first (if yes input (pair 1 2)))", {
            (): [INPUT], (0,): [INPUT, pair(0, 2)], (0, 1): [INPUT], (0, 2): [pair(0, 2)]})

    def test_functions_by_cells_pairs_and_calls(self):
        self.assert_flows("(call (get (cell (fun () input))))", {
            (): [INPUT], (0,): [fun(0, 0, 0)], (0, 0): [cell(0, 0)], (0, 0, 0): [fun(0, 0, 0)], (0, 0, 0, 0): [INPUT]})
        self.assert_flows("(call (rest (pair 1 (fun () input))))", {
            (): [INPUT], (0,): [fun(0, 0, 1)], (0, 0): [pair(0, 0)], (0, 0, 1): [fun(0, 0, 1)], (0, 0, 1, 0): [INPUT]})
        self.assert_flows("(call (call (fun () (fun (x) x))) input)", {
            (): [INPUT], (0,): [fun(0, 0, 0)], (0, 0): [fun(0, 0)], (0, 0, 0): [fun(0, 0, 0)], (0, 0, 0, 0): [INPUT],
            (1,): [INPUT]})

    def test_flows_that_go_round(self):
        self.assert_flows("(let w (fun (x) (call x x)) (call w w))", {
            (0,): [fun(0)], (0, 0, 0): [fun(0)], (0, 0, 1): [fun(0)], (1, 0): [fun(0)], (1, 1): [fun(0)]})
        self.assert_flows("(call (rec f (x) (call f (pair x x))) input)", {
            (0,): [fun(0)], (0, 0, 0): [fun(0)], (0, 0, 1): [pair(0, 0, 1)], (0, 0, 1, 0): [INPUT, pair(0, 0, 1)],
            (0, 0, 1, 1): [INPUT, pair(0, 0, 1)], (1,): [INPUT]})

    def test_lists_rise(self):
        whole = term(
            "(if 1 (if 2 (pair 1 2) (fun () 1)) (if 3 (catch k k) (if 4 (cell 1) (if 5 input (mark t (take t k k))))))")
        self.assertEqual(flows(whole)[()], [
            cell(2, 2, 1), fun(1, 2), INPUT, pair(1, 1), part(2, 2, 2, 2, 0), point(2, 1)])
        whole = term("(if 1 (if 2 (fun () 1) (fun () 1)) (fun () 2))")
        self.assertEqual(flows(whole)[()], [fun(1, 1), fun(1, 2), fun(2)])


class Tables(Flows):
    def test_terms_made_by_chance(self):
        for seed in range(120):
            whole = random_term(seed, 3 + seed % 3)
            if len(paths(whole)) < 260:
                with self.subTest(seed=seed):
                    self.assertEqual(flows(whole), plain_flows(whole))

    def test_least_of_terms_made_by_chance(self):
        for seed in range(30):
            whole = random_term(seed, 3)
            if len(paths(whole)) < 80:
                with self.subTest(seed=seed):
                    self.assert_least(whole, flows(whole))

    def test_each_kind(self):
        for kind in MAKERS:
            self.assertEqual(flows(good(kind)), plain_flows(good(kind)))

    def test_the_askers_own(self):
        whole = term("(let x (cell 1) x)")
        told = flows(term=whole)
        kept = {path: list(told[path]) for path in told}
        told[()].append(INPUT)
        told[(0,)].clear()
        self.assertEqual(told[(1,)], kept[(1,)])
        told.clear()
        self.assertEqual(flows(whole), kept)

    def test_great_ones(self):
        row = "(do " + " ".join(["(call input (cell 1))"] * 12) + ")"
        whole = term("(do " + " ".join([row] * 8) + ")")
        self.assertEqual(len(paths(whole)), 393)
        told = flows(whole)
        self.assertEqual(told[(0, 0, 1)], [cell(0, 0, 1)])
        self.assertIs(is_closed(whole, told), True)
        whole = deep(300, term("(cell 1)"))
        self.assertEqual(flows(whole)[()], [("cell", (1,) * 300)])

    def test_a_deep_net(self):
        # Forty functions, each of which is handed on to all.
        inner = "(call f f)"
        for number in range(40):
            inner = f"(if (call f (fun (x) (call x x))) {inner} (let g{number} f f))" if number % 4 == 0 else f"(do {inner})"
        whole = term(f"(let f (rec f (x) (call x f)) {inner})")
        self.assertEqual(flows(whole), plain_flows(whole))


class IsClosed(Flows):
    def assert_not(self, whole, thing):
        self.assertIs(is_closed(whole, thing), False)

    def test_one_more_origin(self):
        whole = term("(let x (cell 1) (say x))")
        told = flows(whole)
        # To a path from which nothing flows on one more makes no matter, closed it stays.
        self.assertIs(is_closed(whole, {**told, (): [INPUT]}), True)
        self.assertIs(is_closed(whole, {**told, (): [cell(0)]}), True)
        self.assertIs(is_closed(whole, {**told, (1, 0): [cell(0), INPUT]}), True)
        # To one from which something flows on it does.
        self.assert_not(whole, {**told, (0,): [cell(0), INPUT]})
        self.assertIs(is_closed(whole, {**told, (0,): [cell(0), INPUT], (1, 0): [INPUT, cell(0)]}), True)

    def test_one_more_origin_that_lays_ways(self):
        whole = term("(do (fun (x) x) (call input (cell 1)))")
        told = flows(whole)
        self.assert_not(whole, {**told, (1, 0): [INPUT, fun(0)]})
        self.assert_not(whole, {**told, (1, 0): [INPUT, fun(0)], (0, 0): [cell(1, 1)]})
        self.assertIs(is_closed(whole, {
            **told, (1, 0): [INPUT, fun(0)], (0, 0): [cell(1, 1)], (1,): [cell(1, 1)], (): [cell(1, 1)]}), True)

    def test_gets_and_sets_that_have_a_cell_in_common(self):
        whole = term("(do (cell 1) (set input (cell 2)) (get input))")
        told = flows(whole)
        self.assertIs(is_closed(whole, {**told, (1, 0): [INPUT, cell(0)]}), True)
        self.assertIs(is_closed(whole, {**told, (2, 0): [INPUT, cell(0)]}), True)
        both = {**told, (1, 0): [INPUT, cell(0)], (2, 0): [INPUT, cell(0)]}
        self.assert_not(whole, both)
        self.assertIs(is_closed(whole, {**both, (2,): [cell(1, 1)], (): [cell(1, 1)]}), True)

    def test_all_origins_everywhere(self):
        for text in ("(let x (cell 1) x)", "(call (fun (x) x) (pair 1 input))", "1",
                     "(mark t (do (take t k (use k 1)) (catch j (go j 2)) (guard (fault 1) x (rec f (y) (get y)))))"):
            whole = term(text)
            origins = origins_of(whole)
            table = {path: list(origins) for path in paths(whole)}
            self.assertIs(is_closed(whole, table), True)
            self.assertEqual(table, {path: origins for path in paths(whole)})

    def test_in_any_order_each_once(self):
        whole = term("(if 1 (if 2 (cell 1) (fun () 1)) (pair 1 2))")
        told = flows(whole)
        self.assertIs(is_closed(whole, {path: told[path][::-1] for path in reversed(list(told))}), True)
        for path in told:
            if told[path]:
                self.assert_not(whole, {**told, path: told[path] + told[path][:1]})
        self.assert_not(whole, {**told, (0,): [INPUT, INPUT]})

    def test_origins_that_are_not_the_terms(self):
        whole = term("(do (cell 1) (fun () 1) (pair 1 2) (catch k 1) (take t k 1) (plus 1 2) 3)")
        told = flows(whole)
        self.assertIs(is_closed(whole, told), True)
        # To the path of a number anything may be added that is an origin of the term.
        for origin in origins_of(whole):
            self.assertIs(is_closed(whole, {**told, (5, 0): [origin]}), True)
        for origin in (
            ("cell", (1,)), ("fun", (0,)), ("pair", (5,)), ("point", (4,)), ("part", (3,)), ("cell", (9,)), ("cell", ()),
            ("input", ()), ("input", (0,)), ("cell",), ("fun",), ("num", (5, 0)), ("cell", (0,), 1), ("cell", [0]),
            ("cell", 0), ("cell", "0"), ("cell", None), ["cell", (0,)], "cell", 5, None, True, (), [], {}, ("input",) * 2,
            (("cell", (0,)),), (1, (0,)), (None,), ("catch", (3,)), ("take", (4,)), ("op", (2,)), (["cell"], (0,)),
            ("cell", ((0,),)), ("cell", ([0],)), ("cell", (None,)), ("cell", ("0",)), ({}, {}), ("input", [], {}),
            ("cell", (-7,)),
        ):
            with self.subTest(origin=origin):
                self.assert_not(whole, {**told, (5, 0): [origin]})

    def test_things_in_a_lists_stead(self):
        whole = term("(let x (cell 1) x)")
        told = flows(whole)
        for thing in (None, 5, True, "", "cell", (), (cell(0),), {}, {cell(0): True}, cell(0)):
            self.assert_not(whole, {**told, (0, 0): thing})
            self.assert_not(whole, {**told, (0,): thing})

    def test_other_paths(self):
        whole = term("(let x (cell 1) x)")
        told = flows(whole)
        for path in told:
            self.assert_not(whole, {other: told[other] for other in told if other != path})
            exchanged = {other: told[other] for other in told if other != path}
            exchanged[(7,)] = told[path]
            self.assert_not(whole, exchanged)
        for more in ((2,), (1, 0), None, 5, "x", "()", ((),), ("a",)):
            self.assert_not(whole, {**told, more: []})

    def test_things_in_a_dicts_stead(self):
        whole = term("(let x (cell 1) x)")
        for thing in (None, 0, 5, True, "", "x", [], (), {}, [flows(whole)], list(flows(whole).items()), (flows(whole),)):
            self.assert_not(whole, thing)

    def test_nothing_handed_in_is_changed(self):
        whole = term("(call (fun (x) x) (cell 1))")
        for thing in (flows(whole), {**flows(whole), (): []}, {path: [INPUT] for path in paths(whole)}):
            again = {path: list(thing[path]) for path in thing}
            told = is_closed(whole, thing)
            self.assertEqual(thing, again)
            self.assertIs(is_closed(table=thing, term=whole), told)

    def test_terms_made_by_chance(self):
        for seed in range(40):
            whole = random_term(seed, 3)
            told = flows(whole)
            self.assertIs(is_closed(whole, told), True)
            # The closed table of a greater term's is none of another term's.
            other = random_term(seed + 1, 3)
            if paths(other) != paths(whole):
                self.assertIs(is_closed(other, told), False)


class Refusals(Refusing, unittest.TestCase):
    def asked(self):
        return [flows, lambda whole: is_closed(whole, {}), lambda whole: is_closed(whole, 5),
                lambda whole: is_closed(whole, {(): []})]


def kind_is_told(worth, origins):
    """Whether one of a list's origins tells of a worth, as far as that can be seen of it."""
    words = [origin[0] for origin in origins]
    if isinstance(worth, Pair):
        return "pair" in words or "input" in words
    if isinstance(worth, Fun):
        return ("fun", worth.place.path) in origins
    if isinstance(worth, Cell):
        return "cell" in words
    if isinstance(worth, Point):
        return "point" in words
    if isinstance(worth, Part):
        return "part" in words
    return True


class Holds(unittest.TestCase):
    def assert_holds(self, whole, given):
        """Check what each name has when it is begun, and the end; tell how many of these were no atoms."""
        table = flows(whole)
        machine = Leaper(whole, given, HeapFrames())
        many = 0
        while machine.stage == "begin" and machine.steps < 800:
            if machine.place.word == "name":
                worth = machine.env[machine.place.term[1]]
                many += isinstance(worth, (Pair, Fun, Cell, Point, Part))
                self.assertTrue(kind_is_told(worth, table[machine.place.path]), machine.place.path)
            take_step(machine)
        if machine.stage == "end" and machine.kind == "worth":
            many += isinstance(machine.worth, (Pair, Fun, Cell, Point, Part))
            self.assertTrue(kind_is_told(machine.worth, table[()]))
        return many

    def test_terms_made_by_chance(self):
        many = 0
        for seed in range(400):
            given = [5, Pair(Pair(1, 2), chain([3])), None, "a"][seed % 4]
            with self.subTest(seed=seed):
                many += self.assert_holds(random_term(seed, 3 + seed % 5), given)
        self.assertGreater(many, 2000)

    def test_what_is_said(self):
        for text in (
            "(say (first (pair (fun () 1) 2)))", "(say (get (cell (catch k k))))", "(mark t (say (take t k (use k k))))",
            "(say (call (fun (x) (pair x x)) 1))", "(say (guard (fault (cell 1)) x x))", "(say (rest input))",
        ):
            whole = term(text)
            said = run(whole, Pair(1, Pair(2, 3))).output[0]
            path = [other for other in paths(whole) if part_at(whole, other)[0] == "say"][0] + (0,)
            kinds = {"fun": "fun", "cell": "cell", "point": "point", "part": "part"}
            words = [origin[0] for origin in flows(whole)[path]]
            self.assertTrue(words)
            self.assertIn(kinds.get(said, "pair"), ["pair" if word == "input" else word for word in words])


if __name__ == "__main__":
    unittest.main()
