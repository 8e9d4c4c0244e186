"""Promises 10, 11, 12 and 17: what each kind of term tells, its steps and its height."""

import unittest

from tests import samples
from tests.ends import MAKERS, Ends, gone_on, told
from tests.reading import term
from windpoints.plain import MOST, run
from windpoints.terms import part_at, paths
from windpoints.worths import Cell, Fun, Pair, Part, Point, chain, shown

# Each row: the term, its worth, the steps and the height, by the rules.
WORTHS = [
    ("5", "5", 1, 0),
    ("-7", "-7", 1, 0),
    ('"a b"', '"a b"', 1, 0),
    ('""', '""', 1, 0),
    ("yes", "yes", 1, 0),
    ("no", "no", 1, 0),
    ("none", "none", 1, 0),
    ("(fun (x) (fault x))", "fun", 1, 0),
    ("(rec f (x) (call f x))", "fun", 1, 0),
    ("(call (fun () 7))", "7", 3, 1),
    ("(call (fun (x y) (pair y x)) 1 2)", "(2 . 1)", 7, 1),
    ("(call (fun (a b c d e f) f) 1 2 3 4 5 6)", "6", 9, 1),
    ("(call (rec f (x) f) 1)", "fun", 4, 1),
    ("(let x 1 x)", "1", 3, 1),
    ("(let x 1 (let x (plus x 1) x))", "2", 7, 2),
    ("(if yes 1 (fault 2))", "1", 3, 1),
    ("(if no (fault 1) 2)", "2", 3, 1),
    ("(do 1)", "1", 2, 0),
    ("(do (do (do 1)))", "1", 4, 0),
    ("(do 1 2 3)", "3", 4, 1),
    ("(plus 1 2)", "3", 3, 1),
    ("(plus (plus 1 2) (plus 3 4))", "10", 7, 2),
    ("(minus 1 2)", "-1", 3, 1),
    ("(times 3 -4)", "-12", 3, 1),
    ("(less 1 2)", "yes", 3, 1),
    ("(same 1 yes)", "no", 3, 1),
    ('(joined "a" "b")', '"ab"', 3, 1),
    ("(pair 1 none)", "(1 . none)", 3, 1),
    ("(first (pair 1 2))", "1", 4, 2),
    ("(rest (pair 1 2))", "2", 4, 2),
    ("(kind (fun () 1))", '"fun"', 2, 1),
    ("(written (pair 1 2))", '"(1 . 2)"', 4, 2),
    ("(cell 1)", "cell", 2, 1),
    ("(get (cell 1))", "1", 3, 2),
    ("(set (cell 1) 2)", "none", 4, 2),
    ("(let c (cell 1) (do (set c (plus (get c) 1)) (get c)))", "2", 12, 4),
    ("(guard 5 x (fault x))", "5", 2, 1),
    ("(guard (fault 5) x (plus x 1))", "6", 6, 2),
    ("(wind 1 2 3)", "2", 4, 1),
    ("(catch k 5)", "5", 2, 0),
    ("(catch k k)", "point", 2, 0),
    ("(catch k (go k 5))", "5", 4, 1),
    ("(plus 1 (catch k (go k 5)))", "6", 6, 2),
    ("(plus 1 (catch k (times 100 (go k 5))))", "6", 8, 3),
    ("(mark t 5)", "5", 2, 1),
    ("(mark t (plus 1 (take t k 5)))", "5", 5, 2),
    ("(mark t (take t k k))", "part", 3, 1),
    ("(mark t (plus 1 (take t k (use k 5))))", "6", 7, 2),
    ("(plus 100 (mark t (plus 1 (take t k (plus (use k 5) (use k 6))))))", "113", 13, 4),
]

SAYS = [
    ("(say 5)", "5", 2, 1),
    ('(say "a")', '"a"', 2, 1),
    ("(say (pair yes none))", "(yes . none)", 4, 2),
    ("(say (fun () 1))", "fun", 2, 1),
    ("(say (cell 1))", "cell", 3, 2),
    ("(say (catch k k))", "point", 3, 1),
    ("(say (mark t (take t k k)))", "part", 4, 2),
]

# Faults in quotes: the term, the fault, and what was said ahead of it.
FAULTS = [
    ("(call 5)", "no function", ""),
    ("(call (cell 1))", "no function", ""),
    ("(call (catch k k) 1)", "no function", ""),
    ("(call 5 (say 1) (say 2))", "no function", "1 2"),
    ("(call (fun (x) x))", "how many", ""),
    ("(call (fun () 1) (say 2))", "how many", "2"),
    ("(call (fun (x y) x) (say 1) (say 2) (say 3))", "how many", "1 2 3"),
    ("(call (rec f (x) x))", "how many", ""),
    ("(if 1 (say 2) (say 3))", "no truth", ""),
    ("(if none 1 2)", "no truth", ""),
    ('(if "yes" 1 2)', "no truth", ""),
    ("(if (do (say 1) 0) 1 2)", "no truth", "1"),
    ("(plus yes (say 1))", "no number", "1"),
    ("(minus 1 none)", "no number", ""),
    ('(times "2" 1)', "no number", ""),
    ("(less 1 (fun () 1))", "no number", ""),
    ("(plus (times 999999999999999999999999999999 999999999999999999999999999999)"
     " (times 999999999999999999999999999999 3))", "too great", ""),
    ('(joined "a" 1)', "no text", ""),
    ('(joined none (do (say 1) "a"))', "no text", "1"),
    ("(let x (joined input input) (joined x (joined x input)))", "too long", ""),
    ("(first (do (say 1) none))", "no pair", "1"),
    ("(rest 5)", "no pair", ""),
    ("(get 5)", "no cell", ""),
    ("(get (do (say 1) none))", "no cell", "1"),
    ("(set 5 (say 1))", "no cell", "1"),
    ("(go 5 (say 1))", "no point", "1"),
    ("(go (mark t (take t k k)) 1)", "no point", ""),
    ("(use 5 (say 1))", "no part", "1"),
    ("(use (catch k k) 1)", "no part", ""),
    ("(take t k (say 1))", "no mark", ""),
]

# How a loop is gone on with: R stands for its next round, in last place in the first ones, waited for in the others.
LASTS = [
    "R", "(let z 1 R)", "(if yes R 0)", "(if no 0 R)", "(do R)", "(do 1 2 R)", "(guard (fault 1) z R)", "(catch k R)",
    "(take t k R)", "(call (fun () R))", "(call (rec g () R))", "(let z 1 (do 2 (if yes (catch k (take t j R)) 3)))",
    "(guard (plus 1 none) z (catch k (do 1 R)))",
]
WAITED = [
    "(let z R 1)", "(if R 1 1)", "(do R 1)", "(guard R z 0)", "(call R)", "(call (fun (x) x) R)",
    "(call (fun (x y) x) R 1)", "(plus 1 R)", "(pair R 1)", "(kind R)", "(cell R)", "(get R)", "(set R 1)",
    "(set (cell 1) R)", "(say R)", "(fault R)", "(wind R 1 1)", "(wind 1 R 1)", "(wind 1 1 R)", "(mark s R)",
    "(catch k (go k R))", "(catch k (go R k))", "(use R 1)", "(use 1 R)",
]


def loop(body, rounds):
    going_on = body.replace("R", "(call f (minus n 1))")
    return term(f"(mark t (call (rec f (n) (if (less n 1) 0 {going_on})) {rounds}))")


class Kinds(Ends):
    def test_what_each_kind_tells(self):
        for text, worth, steps, height in WORTHS:
            with self.subTest(term=text):
                winds = "+1 -1" if "wind" in text else ""
                self.assert_end(text, "worth", worth, winds=winds, steps=steps, height=height)
                self.assert_stops(text)

    def test_every_kind_is_among_these(self):
        kinds = set()
        for text, *_ in WORTHS + SAYS + [("input",), ("(fault 5)",)]:
            whole = term(text)
            kinds.update(part_at(whole, path)[0] for path in paths(whole))
        self.assertEqual(kinds, set(samples.MAKERS))

    def test_say(self):
        for text, said, steps, height in SAYS:
            with self.subTest(term=text):
                self.assert_end(text, "worth", "none", said, steps=steps, height=height)
                self.assert_stops(text)

    def test_input_is_the_worth_given(self):
        for given in (0, -5, 10 ** 30 - 1, "", "a" * 400, True, False, None, Pair(1, Pair("a", None)), chain([0] * 400)):
            with self.subTest(given=shown(given)[:20]):
                self.assert_end("input", "worth", shown(given), steps=1, height=0, given=given)
                self.assertIs(run(term("input"), given).worth, given)
        self.assert_end("(let input 1 input)", "worth", "1", given=2)
        self.assert_end("(call (fun (input) input) (plus input 1))", "worth", "3", given=2)

    def test_the_kinds_of_worths_told(self):
        for text, kind in (
            ("(fun () 1)", Fun), ("(rec f () 1)", Fun), ("(cell 1)", Cell), ("(catch k k)", Point),
            ("(mark t (take t k k))", Part), ("(pair 1 2)", Pair),
        ):
            with self.subTest(term=text):
                worth = run(term(text), None).worth
                self.assertIs(type(worth), kind)
                for other in (1, "fun", None, True, (), [], object()):
                    self.assertFalse(worth == other)
        self.assertIs(run(term("yes"), None).worth, True)
        self.assertIs(run(term("1"), None).worth, 1)

    def test_a_cell_is_the_same_as_itself_alone(self):
        self.assert_end("(let c (cell 1) (same c c))", "worth", "yes")
        self.assert_end("(let c (cell 1) (same (pair c 1) (pair c 1)))", "worth", "yes")
        self.assert_end("(same (cell 1) (cell 1))", "worth", "no")
        self.assert_end("(let c (cell 1) (let d c (do (set d 2) (pair (same c d) (get c)))))", "worth", "(yes . 2)")
        # The very same cell, whatever is gone to between.
        self.assert_end(
            "(let c (cell 1) (let d (catch k (go k c)) (pair (same c d) (same d (mark t (take t p (use p c)))))))",
            "worth", "(yes . yes)")
        for text in ("(fun () 1)", "(catch k k)", "(mark t (take t k k))"):
            self.assert_end(f"(let c {text} (same c c))", "worth", "no")

    def test_functions_have_the_environment_in_which_they_were_made(self):
        self.assert_end("(let x 1 (let f (fun () x) (let x 2 (call f))))", "worth", "1")
        self.assert_end("(let x 1 (call (fun (f x) (call f)) (fun () x) 2))", "worth", "1")
        self.assert_end("(let f (fun (x) (fun (y) (pair x y))) (let g (call f 1) (pair (call g 2) (call g 3))))",
                        "worth", "((1 . 2) . (1 . 3))")
        self.assert_end("(call (rec f (n) (if (less n 1) 1 (times n (call f (minus n 1))))) 10)", "worth", "3628800")
        self.assert_end("(let f (rec f (n) (if (less n 1) 0 (call f (minus n 1)))) (let g f (let f 5 (call g 3))))",
                        "worth", "0")

    def test_a_cell_keeps_what_it_was_given_last(self):
        self.assert_end("(let c (cell 1) (do (say (get c)) (set c yes) (say (get c)) (set c c) (get c)))",
                        "worth", "cell", "1 yes")

    def test_the_parts_in_turn_from_the_left(self):
        for text, output, worth in (
            ("(call (do (say 0) (fun (x y) (say 3))) (say 1) (say 2))", "0 1 2 3", "none"),
            ("(let x (say 1) (say 2))", "1 2", "none"),
            ("(if (do (say 1) yes) (say 2) (say 3))", "1 2", "none"),
            ("(if (do (say 1) no) (say 2) (say 3))", "1 3", "none"),
            ("(do (say 1) (say 2) (say 3))", "1 2 3", "none"),
            ("(pair (say 1) (say 2))", "1 2", "(none . none)"),
            ("(set (do (say 1) (cell 0)) (say 2))", "1 2", "none"),
            ("(guard (do (say 1) (fault 0)) x (say 2))", "1 2", "none"),
            ("(wind (say 1) (say 2) (say 3))", "1 2 3", "none"),
            ("(catch k (go (do (say 1) k) (say 2)))", "1 2", "none"),
            ("(mark t (take t k (use (do (say 1) k) (say 2))))", "1 2", "none"),
        ):
            with self.subTest(term=text):
                self.assert_end(text, "worth", worth, output, "+1 -1" if "wind" in text else "")


class Faults(Ends):
    def test_each_fault_comes_when_all_parts_have_told_their_worths(self):
        for text, fault, output in FAULTS:
            with self.subTest(term=text):
                self.assert_end(text, "fault", f'"{fault}"', output, given="a" * 200)
                caught = f'(guard {text} why (pair "caught" why))'
                self.assert_end(caught, "worth", f'("caught" . "{fault}")', output, given="a" * 200)

    def test_too_many_pairs_and_too_long_a_text(self):
        self.assert_end("(pair 1 input)", "fault", '"too great"', given=chain([0] * 400))
        self.assert_end("(kind (pair 1 input))", "worth", '"pair"', given=chain([0] * 399))
        self.assert_end("(written input)", "fault", '"too long"', given="a" * 399)
        self.assert_end("(kind (written input))", "worth", '"text"', given="a" * 398)

    def test_steps_and_height_of_a_fault(self):
        self.assert_end("(fault 5)", "fault", "5", steps=2, height=1)
        self.assert_end("(plus 1 (fault (pair 1 2)))", "fault", "(1 . 2)", steps=6, height=3)
        self.assert_end("(call 5 6)", "fault", '"no function"', steps=3, height=1)
        self.assert_end("(take t k 5)", "fault", '"no mark"', steps=1, height=0)

    def test_any_worth_is_a_fault(self):
        for text, worth in (("1", "1"), ("none", "none"), ("(fun () 1)", "fun"), ("(catch k k)", "point"),
                            ("(cell 1)", "cell"), ("(pair 1 2)", "(1 . 2)"), ("yes", "yes")):
            self.assert_end(f"(fault {text})", "fault", worth)
            self.assert_end(f"(guard (fault {text}) x x)", "worth", worth)


class Places(Ends):
    def heights(self, body, rounds):
        result = run(loop(body, rounds), None, most=20000)
        self.assertIn(result.kind, ("worth", "fault"))
        self.assert_machines(loop(body, rounds), None, told(result))
        return result.height

    def test_calls_in_last_place_keep_no_frame(self):
        for body in LASTS:
            with self.subTest(body=body):
                self.assertEqual(self.heights(body, 10), self.heights(body, 200))

    def test_what_waits_keeps_one_frame_each_round(self):
        for body in WAITED:
            with self.subTest(body=body):
                self.assertEqual(self.heights(body, 20), self.heights(body, 10) + 10)

    def test_a_height_of_thousands(self):
        whole = term("(call (rec f (n) (if (less n 1) 0 (plus 1 (call f (minus n 1))))) 1600)")
        result = self.assert_long(whole, "1600")
        self.assertEqual(result.height, 1602)
        whole = term("(call (rec f () (say (call f))))")
        result = run(whole, None, most=20000)
        self.assertEqual((result.kind, result.height), ("steps", 6667))
        self.assert_machines_at(whole, 20000, told(result))

    def assert_long(self, whole, worth):
        result = run(whole, None, most=20000)
        self.assertEqual(told(result)[:2], ("worth", worth))
        self.assert_machines(whole, None, told(result))
        return result

    def assert_machines_at(self, whole, most, stop):
        for maker in MAKERS.values():
            self.assertEqual(gone_on(maker(whole, None), [most]), stop)

    def test_a_worth_that_goes_back_through_thousands_of_frames_at_once(self):
        self.assert_long(term(
            "(call (rec f (n) (if (less n 1) 0 (mark t (guard (call f (minus n 1)) x x)))) 1200)"), "0")
        self.assert_long(term(
            "(guard (call (rec f (n) (if (less n 1) (fault 7) (mark t (call f (minus n 1))))) 1200) x x)"), "7")

    def test_deep_terms(self):
        whole = ("num", 1)
        for _ in range(300):
            whole = ("op", "plus", (whole, ("num", 1)))
        self.assert_end(whole, "worth", "301", steps=601, height=300)
        for _ in range(300):
            whole = ("do", (whole,))
        self.assert_end(whole, "worth", "301", steps=901, height=300)


class Most(Ends):
    def test_where_most_is_not_told(self):
        self.assertEqual(MOST, 4000)
        endless = term("(call (rec f () (call f)))")
        self.assertEqual(told(run(endless, None)), ("steps", None, [], "", 4000, 1))
        self.assertEqual(run(endless, None, most=MOST + 1).steps, 4001)

    def test_one_less_and_just_as_many_and_one_more(self):
        text = "(do (say 1) (wind (say 2) 3 (say 4)) (say 5))"
        whole = term(text)
        end = told(run(whole, None))
        self.assertEqual(end, ("worth", "none", ["1", "2", "4", "5"], "+1 -1", 11, 3))
        self.assertEqual(told(run(whole, None, most=11)), end)
        self.assertEqual(told(run(whole, None, most=12)), end)
        self.assertEqual(told(run(whole, None, most=10)), ("steps", None, ["1", "2", "4"], "+1 -1", 10, 3))
        self.assertEqual(told(run(whole, None, most=0)), ("steps", None, [], "", 0, 0))
        self.assertEqual(told(run(whole, None, most=1)), ("steps", None, [], "", 1, 0))
        self.assert_stops(text)

    def test_all_that_is_due_ahead_of_the_next_step_is_done(self):
        whole = term("(do (wind (say 1) (say 2) (say 3)) (fault 4))")
        # do, wind, say, 1 and then the second part is due: it is in, but not begun.
        self.assertEqual(told(run(whole, None, most=4)), ("steps", None, ["1"], "+1", 4, 3))
        self.assertEqual(told(run(whole, None, most=5)), ("steps", None, ["1"], "+1", 5, 3))
        self.assertEqual(told(run(whole, None, most=6)), ("steps", None, ["1", "2"], "+1 -1", 6, 3))
        self.assertEqual(told(run(whole, None, most=8)), ("steps", None, ["1", "2", "3"], "+1 -1", 8, 3))
        self.assertEqual(told(run(whole, None, most=10)), ("fault", "4", ["1", "2", "3"], "+1 -1", 10, 3))

    def test_height_is_of_the_steps_begun(self):
        whole = term("(plus (plus 1 (plus 2 3)) 4)")
        self.assertEqual([run(whole, None, most=most).height for most in range(9)], [0, 0, 1, 2, 2, 3, 3, 3, 3])


if __name__ == "__main__":
    unittest.main()
