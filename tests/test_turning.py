"""Promises 4 and 21: turned texts."""

import re
import unittest

from tests.ends import Ends, told
from tests.random_terms import random_term
from tests.reading import term
from tests.samples import MAKERS, NO_TERMS, deep, good, kinds_with_parts, leaf, with_part
from windpoints.errors import NoName, NoTerm
from windpoints.lesser import LESSER, run_turned
from windpoints.plain import run
from windpoints.terms import paths
from windpoints.turning import turned
from windpoints.worths import Pair, chain, shown

GIVENS = [5, "a b", Pair(1, Pair("b", None)), None, True]
# Of each kind of the lesser language what stands behind its word: e a term, x a name, r a row of names, s a row of terms.
LESSER_FORMS = {
    "num": "n", "text": "t", "yes": "", "no": "", "none": "", "name": "x", "fun": "re", "rec": "xre", "call": "es",
    "let": "xee", "if": "eee", "op": "ws", "cell": "e", "get": "e", "set": "ee", "say": "e",
}
# Names that the turning may use, and such as are put together like them.
NAMES = [
    "k", "m", "v", "u", "w", "t", "n", "a", "b", "c", "d", "e", "g", "h", "i", "o", "p", "r", "to", "ins", "tag",
    "inner", "v0", "v1", "v2", "v6", "x", "x0", "x1", "x2", "x3", "ids", "back", "enter", "leap", "guards", "fault",
    "winder", "wind", "seek", "take", "lay", "use", "input", "worth", "stop", "guard", "a23456789012",
]


def is_thing(what, thing):
    """Whether a thing in a lesser term that is no part is as it must be."""
    if what == "n":
        return type(thing) is int
    if what == "t":
        return type(thing) is str and re.fullmatch(r"[ !#$&-\[\]-~]*", thing) is not None
    if what == "w":
        return thing in LESSER
    names = thing if what == "r" else (thing,)
    return (
        type(names) is tuple and len(names) <= 6 and len(set(names)) == len(names)
        and all(re.fullmatch(r"[a-z][a-z0-9]{0,11}", name) for name in names))


def parts_of(whole):
    """The parts of a lesser term, with whether each is in last place where the term is, and the names bound there."""
    word = whole[0]
    told_parts = []
    for what, thing in zip(LESSER_FORMS[word], whole[1:]):
        if what in "es":
            told_parts.extend([thing] if what == "e" else thing)
    last = {"fun": [0], "rec": [0], "let": [1], "if": [1, 2]}.get(word, [])
    bound = {"fun": lambda: whole[1], "rec": lambda: (whole[1],) + whole[2], "let": lambda: (whole[1],)}
    names = bound[word]() if word in bound else ()
    return [
        (part, at in last, names if at == len(told_parts) - 1 else ()) for at, part in enumerate(told_parts)]


class Texts(Ends):
    def assert_lesser(self, whole):
        """Check that a term is of the lesser language, with no name but input unbound and all calls in last place."""
        waiting = [(whole, True, frozenset(["input"]))]
        while waiting:
            part, is_last, names = waiting.pop()
            self.assertIs(type(part), tuple)
            self.assertIn(part[0], LESSER_FORMS)
            form = LESSER_FORMS[part[0]]
            self.assertEqual(len(part), 1 + len(form))
            for what, thing in zip(form, part[1:]):
                if what not in "es":
                    self.assertTrue(is_thing(what, thing), part[:2])
            if part[0] == "name":
                self.assertIn(part[1], names)
            if part[0] == "op":
                self.assertIs(type(part[2]), tuple)
                self.assertEqual(len(part[2]), LESSER[part[1]])
            if part[0] == "call":
                self.assertIs(type(part[2]), tuple)
                self.assertLessEqual(len(part[2]), 6)
                self.assertTrue(is_last)
            for inner, inner_last, bound in parts_of(part):
                inner_last = inner_last and (is_last or part[0] in ("fun", "rec"))
                waiting.append((inner, inner_last, names.union(bound)))

    def assert_same(self, whole, given=None):
        """Check that a term's turned text tells its end."""
        end = told(run(whole, given))
        self.assertNotEqual(end[0], "steps")
        result = self.assert_turned(whole, given, end)
        self.assertEqual(told(run_turned(turned(whole), given, most=result.steps)), told(result))
        stop = run_turned(turned(whole), given, most=result.steps - 1)
        self.assertEqual((stop.kind, stop.worth, stop.steps), ("steps", None, result.steps - 1))
        self.assertEqual(stop.output, result.output[:len(stop.output)])
        self.assertEqual(stop.winds, result.winds[:len(stop.winds)])
        return result


class Turned(Texts):
    def test_the_least_term(self):
        result = run_turned(turned(("num", 1)), None)
        self.assertEqual((result.kind, result.worth, result.output, result.winds), ("worth", 1, [], []))

    def test_each_kind(self):
        for kind in MAKERS:
            for given in GIVENS:
                with self.subTest(kind=kind, given=shown(given)):
                    self.assert_lesser(turned(good(kind)))
                    self.assert_same(good(kind), given)

    def test_each_kind_within_each_kind(self):
        for outer in kinds_with_parts():
            for at in range(MAKERS[outer][0]):
                for inner in MAKERS:
                    whole = with_part(outer, at, good(inner))
                    with self.subTest(outer=outer, at=at, inner=inner):
                        self.assert_lesser(turned(whole))
                        self.assert_same(whole)
                        self.assert_same(("guard", ("wind", leaf(1), ("mark", "t", whole), leaf(2)), "x", ("name", "x")))

    def test_input(self):
        for given in GIVENS + [False, 0, -10 ** 29, "", "a" * 400, chain([1] * 400)]:
            with self.subTest(given=shown(given)[:20]):
                result = self.assert_same(("name", "input"), given)
                self.assertIs(result.worth, given)
                self.assert_same(term("(do (say input) (pair (kind input) (same input input)))"), given)

    def test_functions_of_each_count(self):
        for many in range(7):
            names = ["a", "b", "c", "d", "e", "f"][:many]
            whole = ("fun", tuple(names), term("(say 1)"))
            for name in names:
                whole = ("fun", tuple(names), ("op", "pair", (("name", name), whole[2])))
            for handed in range(7):
                worths = tuple(leaf(number) for number in range(handed))
                with self.subTest(many=many, handed=handed):
                    self.assert_same(("call", whole, worths))
                    self.assert_same(("call", ("rec", "own", *whole[1:]), worths))
                    self.assert_same(("let", "own", whole, ("guard", ("call", ("name", "own"), worths), "x", ("name", "x"))))

    def test_loops_of_which_the_height_does_not_grow(self):
        for body in ("R", "(plus 1 R)", "(wind 0 R 1)", "(guard R z 1)", "(mark t R)", "(catch k (go k R))", "(do R 1)"):
            going_on = body.replace("R", "(call f (minus n 1))")
            for many in (3, 25):
                whole = term(f"(call (rec f (n) (if (less n 1) 0 {going_on})) {many})")
                with self.subTest(body=body, many=many):
                    self.assert_same(whole)

    def test_names_that_the_turning_uses(self):
        for name in NAMES:
            for other in NAMES[::5]:
                if other != name:
                    text = (
                        f"(let {name} 1 (let {other} (fun ({name}) (catch {other} (go {other} (plus {name} 10))))"
                        f"  (guard (wind {name} (mark {name} (do (say (call {other} {name}))"
                        f"    (plus 1 (take {name} {other} (pair {name} (use {other} 5)))) )) (say {name})) {name} {name})))")
                    with self.subTest(name=name, other=other):
                        self.assert_same(term(text))
            self.assert_same(term(f"(call (rec {name} (z) (if (less z 1) {name} (call {name} (minus z 1)))) 2)"))

    def test_six_unlike_names_at_once(self):
        for at in range(0, len(NAMES) - 6):
            names = NAMES[at:at + 6]
            chosen = " ".join(names)
            pairs = "none"
            for name in names:
                pairs = f"(pair {name} {pairs})"
            self.assert_same(term(f"(call (fun ({chosen}) (let y (plus 1 2) {pairs})) 1 2 3 4 5 6)"))

    def test_input_bound_anew(self):
        self.assert_same(term("(pair input (let input 1 (pair input (call (fun (input) input) 2))))"), 9)
        self.assert_same(term("(do (let input 1 input) input)"), 9)

    def test_terms_made_by_chance(self):
        many = 0
        for seed in range(500):
            whole, given = random_term(seed, 3 + seed % 4, parts=seed % 3 > 0), GIVENS[seed % 5]
            if len(paths(whole)) <= 250 and run(whole, given, most=400).kind != "steps":
                many += 1
                with self.subTest(seed=seed):
                    self.assert_same(whole, given)
                    if seed % 10 == 0:
                        self.assert_lesser(turned(whole))
        self.assertGreater(many, 200)

    def test_a_run_that_does_not_end(self):
        whole = term("(call (rec f (n) (do (say n) (wind 0 (catch k (go k 1)) 0) (call f (plus n 1)))) 0)")
        plain = run(whole, None, most=4000)
        result = run_turned(turned(whole), None, most=20000)
        self.assertEqual((result.kind, result.worth, result.steps), ("steps", None, 20000))
        self.assertGreater(len(result.output), 20)
        self.assertEqual(result.output, plain.output[:len(result.output)])
        self.assertEqual(result.winds, plain.winds[:len(result.winds)])
        self.assertLessEqual(result.height, 8)


class Long(Texts):
    def nest(self, wrap, bottom, many):
        """A term that is wrapped so many times by a function that calls itself, with a term inside all."""
        going_on = wrap.replace("R", "(call f (minus n 1))")
        return term(f"(mark t (call (rec f (n) (if (less n 1) {bottom} {going_on})) {many}))")

    def assert_long(self, whole):
        plain = run(whole, None)
        self.assertGreater(plain.steps, 300)
        self.assertLessEqual(plain.steps, 400)
        self.assert_same(whole)

    def test_four_hundred_steps_and_an_end_within_the_bound(self):
        loop = "(call (rec g (i) (if (less i 1) 0 (do BODY (call g (minus i 1))))) TIMES)"
        for wrap, many, body, times in (
            ("(mark s R)", 20, "(take t k (use k 0))", 12),
            ("(guard R z z)", 20, "(take t k (use k 0))", 12),
            ("(wind 0 R 0)", 9, "(take t k (use k 0))", 7),
            ("(wind 0 R 0)", 22, "(catch k (go k 0))", 7),
            ("(mark s R)", 20, "(guard (fault 1) z z)", 12),
            ("(plus 0 R)", 18, "(catch k (go k 0))", 12),
        ):
            bottom = loop.replace("BODY", body).replace("TIMES", str(times))
            with self.subTest(wrap=wrap, body=body):
                self.assert_long(self.nest(wrap, bottom, many))

    def test_a_part_used_many_times(self):
        uses = " ".join(["(use k 0)"] * 12)
        self.assert_long(self.nest("(mark s R)", f"(take t k (do {uses}))", 30))
        self.assert_long(self.nest("(wind 0 R 0)", f"(take t k (do {uses}))", 9))

    def test_uses_each_within_the_one_before(self):
        text = (
            "(let n (cell 0) (let p (cell none) (mark t (mark a (mark b (mark c (mark d (mark e (do"
            "  (take t k (do (set p k) (use k 0)))"
            "  (set n (plus (get n) 1)) (if (less (get n) 10) (plus 1 (use (get p) 0)) 7))))))))))")
        self.assert_same(term(text))

    def test_a_fault_out_of_many_winders(self):
        whole = self.nest("(wind 0 R 0)", "(fault 5)", 25)
        self.assert_same(whole)
        self.assert_same(("guard", whole, "x", term("(pair x 1)")))

    def test_points_that_lead_into_many_winders_again(self):
        text = (
            "(let p (cell none) (let m (cell 0) (do"
            "  (call (rec f (n) (if (less n 1) (catch k (set p k)) (wind 0 (call f (minus n 1)) 0))) 9)"
            "  (set m (plus (get m) 1)) (if (less (get m) 9) (go (get p) 0) (get m)))))")
        self.assert_same(term(text))


class Asking(Texts):
    def test_refused_as_by_check_term(self):
        for thing in NO_TERMS:
            with self.subTest(thing=thing):
                with self.assertRaises(NoTerm) as caught:
                    turned(thing)
                self.assertEqual(caught.exception.at, ())
                with self.assertRaises(NoTerm) as caught:
                    turned(("say", thing))
                self.assertEqual(caught.exception.at, (0,))
        with self.assertRaises(NoName) as caught:
            turned(term("(do input (let k 1 k) k)"))
        self.assertEqual((caught.exception.at, caught.exception.name), ((2,), "k"))

    def test_asked_again_the_same_is_told(self):
        for kind in MAKERS:
            whole = good(kind)
            self.assertEqual(turned(whole), turned(term=whole))
            self.assertEqual(whole, good(kind))

    def test_a_hundred_places_within_one_another(self):
        for kind in kinds_with_parts():
            for at in range(MAKERS[kind][0]):
                whole = leaf(1)
                while len(paths(whole)) + MAKERS[kind][0] <= 100:
                    whole = with_part(kind, at, whole)
                with self.subTest(kind=kind, at=at):
                    self.assert_lesser(turned(whole))
                    self.assertEqual(turned(whole), turned(whole))
                    self.assert_same(whole)

    def test_terms_that_were_told_are_turned_too(self):
        self.assert_same(deep(49, ("name", "input")), "a")


if __name__ == "__main__":
    unittest.main()
