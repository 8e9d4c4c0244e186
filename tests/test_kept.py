"""Promise 27: Kept and kept_from; promise 4 of runs kept as texts."""

import random
import re
import unittest

from tests.ends import Ends, told
from tests.random_terms import random_term
from tests.reading import term
from tests.refusals import Refusing
from tests.samples import MAKERS, deep, good
from windpoints.errors import NoText
from windpoints.kept import Kept, kept_from
from windpoints.lines import check
from windpoints.plain import run
from windpoints.results import Result
from windpoints.worths import Cell, Fun, Pair, Part, Point, chain

GIVENS = [5, "a b", Pair(1, Pair("b", None)), None, True]

# Runs that keep things of all kinds at some of their stops.
TEXTS = {
    "a number": "5",
    "a fault": '(plus 1 "a")',
    "a cell that is set": "(let c (cell 1) (do (set c (plus (get c) 1)) (say (get c)) (get c)))",
    "a shared cell": "(let c (cell 1) (let d (pair c c) (do (set (first d) 7) (say (same (first d) (rest d))) (get (rest d)))))",
    "a cell that holds itself": "(let c (cell 1) (do (set c (pair c c)) (same (first (get c)) c)))",
    "cells that hold one another": "(let c (cell 1) (let d (cell c) (do (set c d) (same (get (get d)) d))))",
    "a cell without another's worth": "(let c (cell 1) (let d (cell 1) (do (set c 2) (pair (get c) (get d)))))",
    "functions": "(let y 3 (let f (fun (x) (plus x y)) (let g (rec g (n) (if (less n 1) (call f n) (call g (minus n 1)))) (call g 4))))",
    "a function in its own cell": "(let c (cell none) (let f (fun (n) (if (less n 1) 0 (plus n (call (get c) (minus n 1))))) (do (set c f) (call f 3))))",
    "pairs that stand there twice": "(let p (pair 1 2) (let q (pair p p) (let r (pair q q) (do (say r) (same (first r) (rest r))))))",
    "a Point": "(let n (cell 0) (let p (catch k k) (do (set n (plus (get n) 1)) (if (less (get n) 3) (go p p) (get n)))))",
    "a Point in a cell": "(let c (cell none) (let n (cell 0) (do (say (catch k (do (set c k) 1))) (set n (plus (get n) 1)) (if (less (get n) 3) (go (get c) (get n)) 9))))",
    "a Part": "(mark t (plus 1 (take t k (plus (use k 1) (use k 10)))))",
    "a Part in a cell": "(let c (cell none) (do (mark t (pair 1 (take t k (set c k)))) (say (use (get c) 5)) (use (get c) 6)))",
    "Parts within Parts": "(mark s (say (mark t (pair (take s j (pair (use j 1) (use j 2))) (take t k (pair (use k 3) (use k 4)))))))",
    "winders": "(wind (say 1) (wind (say 2) (say 3) (say 4)) (say 5))",
    "leaps out": '(guard (wind (say 1) (wind (say 2) (fault "f") (do (say 3) (say 4))) (say 5)) x (say x))',
    "leaps in": "(let p (cell none) (let n (cell 0) (do (wind (say 1) (wind (say 2) (catch k (set p k)) (say 3)) (say 4)) (set n (plus (get n) 1)) (if (less (get n) 3) (go (get p) 0) (get n)))))",
    "a Point caught in a leap": "(let p (cell none) (let n (cell 0) (do (guard (wind 0 (fault 1) (catch k (set p k))) x (say x)) (set n (plus (get n) 1)) (if (less (get n) 3) (go (get p) 0) (get n)))))",
    "a fault in a leap": "(guard (wind (say 1) (wind 2 (fault 3) (fault 4)) (say 5)) x (pair x x))",
    "a leap to its end": "(wind (say 1) (wind (say 2) (fault 3) (say 4)) (say 5))",
    "winders in a Part": "(mark t (wind (say 1) (pair (take t k (pair (use k 5) (use k 6))) (wind 0 7 8)) (say 2)))",
    "marks": "(mark t (mark s (say (take t k (use k (take s j 1))))))",
    "texts with many signs": '(do (say "(a) ; b") (say "  ") (say "") (say (written "q")) (joined "a" " 5 7 "))',
    "texts with quotes": '(let x (written (written "a b")) (do (say x) (say (pair x x)) x))',
    "numbers": "(let x (times 99999999999999999999 -99999999999999999999) (do (say x) (minus 0 x)))",
    "yes, no and none": "(let yes1 yes (pair yes1 (pair no (pair none none))))",
    "many names": "(let a 1 (let b 2 (let c 3 (let a 4 (do (say a) (fun (b d) (plus a b)) (pair a b))))))",
}


def spoilt_at(text):
    """The place of the first line that is wrong, lacking, or more than the first tells; None where there is none."""
    lines = text.split("\n")
    many = None
    for at, line in enumerate(lines):
        if many is not None and at > many:
            return at
        form = re.fullmatch(r"(0|[1-9][0-9]*) (0|[1-9][0-9]*) ([ -~]*) (0|[1-9][0-9]*)", line)
        if form is None:
            return at
        place, length, rest, number = form.groups()
        if place != str(at) or length != str(len(rest)) or number != str(check(line[:line.rindex(" ")])):
            return at
        if at == 0:
            many = int(rest)
    return None if len(lines) == many + 1 else len(lines)


class Keeping(Ends):
    def assert_form(self, text):
        self.assertIs(type(text), str)
        lines = text.split("\n")
        for at, line in enumerate(lines):
            place, length, rest = line.split(" ", 2)
            rest, number = rest.rsplit(" ", 1)
            self.assertEqual((place, length), (str(at), str(len(rest))))
            self.assertRegex(rest, r"\A[ -~]*\Z")
            self.assertEqual(number, str(check(f"{at} {len(rest)} {rest}")))
        self.assertEqual(lines[0].split(" ")[2], str(len(lines) - 1))

    def assert_comes_up(self, kept, stops, at):
        """Check that a run comes up from its text, and goes on to its end, more than once."""
        text = kept.text()
        self.assert_form(text)
        self.assertEqual(kept.text(), text)
        one, two = kept_from(text), kept_from(text)
        self.assertIs(type(one), Kept)
        self.assertEqual(told(one.result()), stops[at])
        self.assertEqual(one.text(), text)
        one.go_on(20000)
        self.assertEqual(told(one.result()), stops[-1])
        self.assertEqual(told(two.result()), stops[at])
        two.go_on(1)
        self.assertEqual(told(two.result()), stops[at + 1])
        self.assertEqual(told(kept.result()), stops[at])
        two.go_on(20000)
        self.assertEqual(told(two.result()), stops[-1])

    def assert_kept(self, whole, given=None):
        """Check a run at each of its stops, also where it goes on from text to text."""
        steps = run(whole, given, most=20000).steps
        stops = [told(run(whole, given, most=most)) for most in range(steps + 2)]
        kept, again = Kept(whole, given), Kept(whole, given)
        for at in range(steps + 1):
            self.assertEqual(told(again.result()), stops[at])
            self.assert_comes_up(kept, stops, at)
            self.assertEqual(again.text(), kept.text())
            self.assertIs(kept.go_on(1), at + 1 >= steps)
            again = kept_from(again.text())
            self.assertIs(again.go_on(1), at + 1 >= steps)
        self.assertEqual(told(again.result()), stops[-1])


class Runs(Keeping):
    def test_things_of_all_kinds(self):
        for name, text in TEXTS.items():
            with self.subTest(keeps=name):
                self.assert_kept(term(text))

    def test_each_kind(self):
        for kind in MAKERS:
            for given in GIVENS:
                with self.subTest(kind=kind):
                    self.assert_kept(good(kind), given)

    def test_in_pieces_of_many_sizes(self):
        for name, text in TEXTS.items():
            whole = term(text)
            for size in (1, 2, 3, 7, 1000):
                self.assert_pieces(Kept(whole, None), size, [
                    told(run(whole, None, most=most)) for most in range(run(whole, None).steps + 2)])

    def test_terms_made_by_chance(self):
        for seed in range(120):
            whole, given = random_term(seed, 3 + seed % 4), GIVENS[seed % 5]
            chance = random.Random(seed)
            kept = Kept(whole, given)
            left = 600
            with self.subTest(seed=seed):
                while left > 0:
                    many = min(left, chance.choice([0, 1, 2, 5, 30, 100, 300]))
                    left -= many
                    text = kept.text()
                    kept = kept_from(text)
                    self.assertEqual(kept.text(), text)
                    kept.go_on(many)
                self.assertEqual(told(kept.result()), told(run(whole, given, most=600)))

    def test_names_that_are_yes_no_or_none(self):
        whole = ("let", "yes", ("num", 1), ("let", "none", ("fun", ("no",), ("op", "plus", (("name", "no"), ("name", "yes")))), (
            "call", ("name", "none"), (("num", 5),))))
        self.assert_kept(whole)

    def test_worths_that_are_told(self):
        for text, kind in (
            ("(fun (x) x)", Fun), ("(cell 1)", Cell), ("(catch k k)", Point), ("(mark t (say (take t k k)))", Part),
            ("(pair 1 2)", Pair), ("5", int), ('"a"', str), ("yes", bool),
        ):
            kept = Kept(term(text), None)
            kept.go_on(100)
            result = kept_from(kept.text()).result()
            self.assertIs(type(result), Result)
            self.assertIs(type(result.worth), kind)
        kept = Kept(term("(pair input input)"), chain([1, "a", True, None]))
        kept.go_on(100)
        self.assertEqual(kept_from(kept.text()).result().worth, kept.result().worth)

    def test_each_goes_on_by_itself(self):
        # What one sets in a cell the other ones don't have in theirs.
        kept = Kept(term("(let c (cell 0) (call (rec f (n) (if (less n 1) (get c) (do (set c (plus (get c) n)) (call f (minus n 1))))) 6))"), None)
        kept.go_on(30)
        text = kept.text()
        others = [kept_from(text) for _ in range(3)]
        for other in others + [kept]:
            other.go_on(20000)
            self.assertEqual(told(other.result())[:2], ("worth", "21"))
        self.assertEqual(kept_from(text).text(), text)

    def test_results_are_the_askers_own(self):
        kept = Kept(term(TEXTS["winders"]), None)
        kept.go_on(8)
        other = kept_from(kept.text())
        for one in (kept, other):
            stop = told(one.result())
            result = one.result()
            self.assertTrue(result.output and result.winds)
            result.output.clear()
            result.winds.clear()
            self.assertEqual(told(one.result()), stop)

    def test_deep_and_long_ones(self):
        whole = deep(300, term("(say 5)"))
        kept = Kept(whole, None)
        kept.go_on(450)
        again = kept_from(kept.text())
        self.assertTrue(again.go_on(20000))
        self.assertEqual(told(again.result()), told(run(whole, None)))
        whole = term("(call (rec f (n) (if (less n 1) (catch k (say k)) (plus 1 (wind 0 (mark t (call f (minus n 1))) 0)))) 900)")
        kept = Kept(whole, chain(list(range(100))))
        kept.go_on(15000)
        again = kept_from(kept.text())
        self.assertEqual(again.go_on(5000), kept.go_on(5000))
        self.assertEqual(told(again.result()), told(kept.result()))

    def test_leaps_within_leaps(self):
        # Each going out leaves by a fault again, which the next one's going out meets.
        text = "(call (rec f (n) (if (less n 1) (fault 0) (guard (wind 0 (call f (minus n 1)) (fault n)) x (fault x)))) 40)"
        whole = term(text)
        end = told(run(whole, None))
        kept = Kept(whole, None)
        while not kept.go_on(7):
            kept = kept_from(kept.text())
        self.assertEqual(told(kept.result()), end)

    def test_never_equal_to_another_kind(self):
        kept = Kept(("num", 1), None)
        for other in (1, "", None, [], ("num", 1), kept.text(), kept.result()):
            self.assertFalse(kept == other)

    def test_by_names(self):
        kept = Kept(given=4, term=term("(plus input 1)"))
        kept.go_on(many=2)
        again = kept_from(text=kept.text())
        again.go_on(many=1)
        self.assertEqual(again.result().worth, 5)


class Refusals(Refusing, unittest.TestCase):
    def asked(self):
        return [lambda whole: Kept(whole, None)]


class Spoilt(Keeping):
    def setUp(self):
        kept = Kept(term('(let c (cell "a (b) ; c") (mark t (wind (say 1) (pair (take t k (use k 5)) (get c)) (say 2))))'), None)
        kept.go_on(16)
        self.text = kept.text()
        kept.go_on(20000)
        self.end = told(kept.result())

    def assert_spoilt(self, text):
        at = spoilt_at(text)
        self.assertIsNotNone(at, text)
        with self.assertRaises(NoText) as caught:
            kept_from(text)
        self.assertEqual(vars(caught.exception), {"at": at})
        return at

    def tearDown(self):
        # The text itself comes up still.
        kept = kept_from(self.text)
        kept.go_on(20000)
        self.assertEqual(told(kept.result()), self.end)

    def test_one_sign_made_another(self):
        chance = random.Random(3)
        signs = [chr(number) for number in range(32, 127)] + ["\n"]
        for at, sign in enumerate(self.text):
            for other in {chance.choice(signs), "\n", " ", "0", chr(min(126, ord(sign) + 1))} - {sign}:
                line = self.text[:at].count("\n")
                self.assertEqual(self.assert_spoilt(self.text[:at] + other + self.text[at + 1:]), line)

    def test_one_sign_put_in(self):
        chance = random.Random(4)
        signs = [chr(number) for number in range(32, 127)]
        for at in range(len(self.text) + 1):
            for sign in (chance.choice(signs), "\n", " ", "0", self.text[at - 1]):
                self.assert_spoilt(self.text[:at] + sign + self.text[at:])

    def test_one_sign_left_out(self):
        for at in range(len(self.text)):
            line = self.text[:at].count("\n")
            self.assertEqual(self.assert_spoilt(self.text[:at] + self.text[at + 1:]), line)

    def test_neighbours_that_change_places(self):
        for at in range(len(self.text) - 1):
            one, two = self.text[at:at + 2]
            if one != two:
                self.assert_spoilt(self.text[:at] + two + one + self.text[at + 2:])

    def test_lines_left_out_told_twice_and_exchanged(self):
        lines = self.text.split("\n")
        last = len(lines) - 1
        for at in range(len(lines)):
            self.assertEqual(self.assert_spoilt("\n".join(lines[:at] + lines[at + 1:])), at)
            self.assertEqual(self.assert_spoilt("\n".join(lines[:at + 1] + lines[at:])), at + 1)
            for other in (0, 1, last // 2, last - 1, last):
                if other != at:
                    exchanged = list(lines)
                    exchanged[at], exchanged[other] = lines[other], lines[at]
                    self.assertEqual(self.assert_spoilt("\n".join(exchanged)), min(at, other))
            # Also where it is told again elsewhere.
            self.assertEqual(self.assert_spoilt("\n".join(lines + [lines[at]])), last + 1)

    def test_cut_off(self):
        for at in range(len(self.text)):
            line = self.text[:at].count("\n")
            is_whole_line = self.text[at] == "\n"
            self.assertEqual(self.assert_spoilt(self.text[:at]), line + is_whole_line)

    def test_one_more_line_end(self):
        lines = len(self.text.split("\n"))
        self.assertEqual(self.assert_spoilt(self.text + "\n"), lines)
        self.assertEqual(self.assert_spoilt("\n" + self.text), 0)
        self.assertEqual(self.assert_spoilt(""), 0)

    def test_each_number_of_a_line(self):
        lines = self.text.split("\n")
        for at in (0, 1, len(lines) // 2, len(lines) - 1):
            place, length, rest = lines[at].split(" ", 2)
            rest, number = rest.rsplit(" ", 1)
            for line in (
                f"{int(place) + 1} {length} {rest} {number}", f"{place} {int(length) + 1} {rest} {number}",
                f"{place} {int(length) - 1} {rest} {number}", f"{place} {length} {rest} {int(number) + 1}",
                f"0{place} {length} {rest} {number}", f"{place} 0{length} {rest} {number}",
                f"{place} {length} {rest} 0{number}", f"+{place} {length} {rest} {number}", f"{place} {length} {rest} -{number}",
                f"{place} {length} {rest} {number} ", f" {place} {length} {rest} {number}", f"{place} {length} {rest}",
                f"{place} {length} {number}", f"{place} {rest} {number}", "",
            ):
                self.assertEqual(self.assert_spoilt("\n".join(lines[:at] + [line] + lines[at + 1:])), at)

    def test_the_first_of_several(self):
        lines = self.text.split("\n")
        for first, second in ((0, 3), (2, 5), (5, len(lines) - 1)):
            spoilt = [line + "x" if at in (first, second) else line for at, line in enumerate(lines)]
            self.assertEqual(self.assert_spoilt("\n".join(spoilt)), first)


if __name__ == "__main__":
    unittest.main()
