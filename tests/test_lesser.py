"""Promise 20: the lesser language and its machine."""

import unittest

from tests.ends import told
from tests.reading import term
from windpoints.errors import Stuck
from windpoints.lesser import LESSER, TURNED_MOST, run_turned
from windpoints.results import Result
from windpoints.worths import OPS, Cell, Fun, Pair, Part, Point, chain, shown

# Each row: a term, its worth, and the steps and height without those of the pair around it.
WORTHS = [
    ("5", "5", 1, 0),
    ('"a b"', '"a b"', 1, 0),
    ("yes", "yes", 1, 0),
    ("no", "no", 1, 0),
    ("none", "none", 1, 0),
    ("input", "7", 1, 0),
    ("(fun (x) x)", "fun", 1, 0),
    ("(rec f (x) x)", "fun", 1, 0),
    ("(call (fun (x y) (pair y x)) 1 2)", "(2 . 1)", 7, 1),
    ("(call (fun () 3))", "3", 3, 1),
    ("(call (rec f (n) (if (less n 1) n (call f (minus n 1)))) 2)", "0", 26, 2),
    ("(let x 1 x)", "1", 3, 1),
    ("(if yes 1 2)", "1", 3, 1),
    ("(if no 1 2)", "2", 3, 1),
    ("(cell 1)", "cell", 2, 1),
    ("(get (cell 1))", "1", 3, 2),
    ("(set (cell 1) 2)", "none", 4, 2),
    ("(let c (cell 1) (let u (set c 2) (get c)))", "2", 9, 2),
    ("(plus 1 2)", "3", 3, 1),
    ("(minus 1 2)", "-1", 3, 1),
    ("(times 2 3)", "6", 3, 1),
    ("(less 1 2)", "yes", 3, 1),
    ("(same 1 1)", "yes", 3, 1),
    ('(joined "a" "b")', '"ab"', 3, 1),
    ("(pair 1 2)", "(1 . 2)", 3, 1),
    ("(first (pair 1 2))", "1", 4, 2),
    ("(rest (pair 1 2))", "2", 4, 2),
    ("(kind 1)", '"number"', 2, 1),
    ("(written yes)", '"yes"', 2, 1),
    ('(tried "plus" (pair 1 (pair 2 none)))', "(yes . 3)", 7, 3),
    ('(tried "less" (pair 1 (pair 2 none)))', "(yes . yes)", 7, 3),
    ('(tried "kind" (pair none none))', '(yes . "none")', 5, 2),
    ('(tried "plus" (pair 1 (pair yes none)))', '(no . "no number")', 7, 3),
    ('(tried "first" (pair 1 none))', '(no . "no pair")', 5, 2),
    ('(tried "joined" (pair 1 (pair 2 none)))', '(no . "no text")', 7, 3),
    ("(point 1)", "point", 2, 1),
    ("(part 1)", "part", 2, 1),
    ("(kind (point 1))", '"point"', 3, 2),
    ("(kind (part 1))", '"part"', 3, 2),
    ("(inside (point 1))", "1", 3, 2),
    ("(inside (part (pair 1 2)))", "(1 . 2)", 5, 3),
    ("(inside (inside (point (part 9))))", "9", 5, 4),
    ("(same (point 1) (point 1))", "no", 5, 2),
    ("(let p (part 1) (same p p))", "no", 6, 2),
]

# What would be a fault.
STUCK = [
    "(call 5)", "(call none 1)", "(call (cell 1))", "(call (point 1) 2)", "(call (fun (x) x))", "(call (fun () 1) 2)",
    "(call (rec f (x y) x) 1)", "(if 1 2 3)", "(if none 2 3)", '(if "yes" 2 3)', "(get 5)", "(get (pair 1 2))",
    "(get (point 1))", "(set 5 1)", "(set none 1)", "(plus 1 yes)", "(minus none 1)", '(times "a" 1)', "(less 1 none)",
    "(plus 999999999999999999999999999999999999999999999999999999999999 1)",
    "(minus -999999999999999999999999999999999999999999999999999999999999 1)",
    "(times 1000000000000000000000000000000 1000000000000000000000000000000)",
    '(joined "a" 1)', "(joined none none)", "(joined input input)", "(written input)", "(first 1)", "(rest none)",
    "(first (point (pair 1 2)))", "(inside 5)", "(inside none)", "(inside (pair 1 2))", "(inside (cell 1))",
    "(inside (fun () 1))", "(inside yes)", '(inside "a")',
]


def ended(text):
    """A term that ends as turned texts do, with the worth of a text's term."""
    return ("op", "pair", (("text", "worth"), term(text)))


class Words(unittest.TestCase):
    def test_how_many_parts_each_word_has(self):
        self.assertIs(type(LESSER), dict)
        self.assertEqual(LESSER, {**OPS, "tried": 2, "wound": 2, "point": 1, "part": 1, "inside": 1})

    def test_every_word_is_among_the_tests(self):
        for word in LESSER:
            if word != "wound":
                self.assertTrue(any(f"({word} " in text for text, *_ in WORTHS), word)


class Machine(unittest.TestCase):
    def assert_worth(self, text, worth, given=7):
        result = run_turned(ended(text), given)
        self.assertIs(type(result), Result)
        self.assertEqual((result.kind, shown(result.worth)), ("worth", worth))
        return result

    def test_what_each_term_tells(self):
        for text, worth, steps, height in WORTHS:
            with self.subTest(term=text):
                result = self.assert_worth(text, worth)
                self.assertEqual((result.steps, result.height), (steps + 2, height + 1))

    def test_the_kinds_of_worths(self):
        for text, kind in (
            ("(fun () 1)", Fun), ("(cell 1)", Cell), ("(point 1)", Point), ("(part 1)", Part), ("(pair 1 2)", Pair),
            ('(tried "kind" (pair 1 none))', Pair),
        ):
            worth = run_turned(ended(text), None).worth
            self.assertIs(type(worth), kind)
            self.assertFalse(worth == 5)
        tried = run_turned(ended('(tried "plus" (pair 1 (pair 2 none)))'), None).worth
        self.assertIs(tried.first, True)
        tried = run_turned(ended('(tried "plus" (pair 1 (pair none none)))'), None).worth
        self.assertIs(tried.first, False)
        self.assertEqual(tried.rest, "no number")

    def test_the_pair_tells_kind_and_worth(self):
        self.assertEqual(told(run_turned(term('(pair "fault" (plus input 1))'), 1)), ("fault", "2", [], "", 5, 2))
        self.assertEqual(told(run_turned(term('(pair "worth" input)'), None)), ("worth", "none", [], "", 3, 1))

    def test_say(self):
        result = self.assert_worth('(let u (say (pair 1 "a")) (say (point 1)))', "none")
        self.assertEqual(result.output, ['(1 . "a")', "point"])

    def test_wound(self):
        result = self.assert_worth('(pair (wound "in" 5) (pair (wound "out" -2) (wound "in" 0)))', "(none . (none . none))")
        self.assertEqual(result.winds, [("in", 5), ("out", -2), ("in", 0)])
        self.assertEqual(result.output, [])

    def test_tried_of_every_word_as_op_worth_tells(self):
        for word, handed, told_by_it in (
            ("plus", "(pair 2 (pair 3 none))", "(yes . 5)"),
            ("minus", "(pair 2 (pair 3 none))", "(yes . -1)"),
            ("times", "(pair 2 (pair none none))", '(no . "no number")'),
            ("times", "(pair 1000000000000000000000000000000 (pair 1000000000000000000000000000000 none))",
             '(no . "too great")'),
            ("less", '(pair 2 (pair "a" none))', '(no . "no number")'),
            ("same", "(pair 2 (pair 2 none))", "(yes . yes)"),
            ("joined", '(pair "a" (pair "b" none))', '(yes . "ab")'),
            ("joined", "(pair input (pair input none))", '(no . "too long")'),
            ("pair", "(pair 1 (pair 2 none))", "(yes . (1 . 2))"),
            ("first", "(pair (pair 1 2) none)", "(yes . 1)"),
            ("rest", "(pair (pair 1 2) none)", "(yes . 2)"),
            ("rest", "(pair 5 none)", '(no . "no pair")'),
            ("kind", "(pair (point 1) none)", '(yes . "point")'),
            ("written", "(pair (pair 1 2) none)", '(yes . "(1 . 2)")'),
            ("written", "(pair input none)", '(no . "too long")'),
        ):
            with self.subTest(word=word, handed=handed):
                self.assert_worth(f'(tried "{word}" {handed})', told_by_it, given="a" * 399)

    def test_a_pair_has_no_bound_but_where_it_is_tried(self):
        given = chain([0] * 400)
        self.assert_worth("(kind (pair 1 input))", '"pair"', given)
        self.assert_worth('(tried "pair" (pair 1 (pair input none)))', '(no . "too great")', given)
        made = "(call (rec f (n c) (if (less n 1) c (call f (minus n 1) (pair n c)))) 2000 none)"
        worth = run_turned(term(f'(let c {made} (pair "worth" c))'), None).worth
        many = 0
        while isinstance(worth, Pair):
            many += 1
            worth = worth.rest
        self.assertEqual(many, 2000)

    def test_calls_in_last_place_keep_no_frame(self):
        text = '(call (rec f (n) (if (less n 1) (pair "worth" n) (let z 1 (call f (minus n 1))))) {})'
        heights = [run_turned(term(text.replace("{}", str(many))), None).height for many in (10, 1000)]
        self.assertEqual(heights[0], heights[1])
        waiting = '(pair "worth" (call (rec f (n) (if (less n 1) n (plus 1 (call f (minus n 1))))) 1000))'
        self.assertEqual(run_turned(term(waiting), None).height, 1003)


class Stucks(unittest.TestCase):
    def test_each_thing_that_would_be_a_fault(self):
        for text in STUCK:
            for whole in (ended(text), term(text), term(f"(let x (fun () {text}) (call x))")):
                with self.subTest(term=whole):
                    with self.assertRaises(Stuck) as caught:
                        run_turned(whole, "a" * 399)
                    self.assertIsInstance(caught.exception, RuntimeError)
                    self.assertIsInstance(caught.exception.word, str)

    def test_stopped_ahead_of_it(self):
        whole = term("(pair (say 1) (plus 1 none))")
        self.assertEqual(told(run_turned(whole, None, most=5)), ("steps", None, ["1"], "", 5, 2))
        with self.assertRaises(Stuck):
            run_turned(whole, None, most=6)


class Most(unittest.TestCase):
    def test_where_most_is_not_told(self):
        self.assertEqual(TURNED_MOST, 200000)
        result = run_turned(term("(call (rec f () (call f)))"), None)
        self.assertEqual(told(result), ("steps", None, [], "", 200000, 1))

    def test_by_its_name_alone(self):
        with self.assertRaises(TypeError):
            run_turned(ended("1"), None, 5)
        self.assertEqual(run_turned(most=2, given=None, term=ended("1")).kind, "steps")

    def test_one_less_and_just_as_many(self):
        whole = term('(let u (say 1) (let u (wound "in" 1) (let u (say 2) (pair "worth" 3))))')
        end = told(run_turned(whole, None))
        self.assertEqual(end, ("worth", "3", ["1", "2"], "+1", 13, 2))
        self.assertEqual(told(run_turned(whole, None, most=13)), end)
        stops = [told(run_turned(whole, None, most=most)) for most in range(13)]
        self.assertEqual(stops[0], ("steps", None, [], "", 0, 0))
        self.assertEqual(stops[3], ("steps", None, ["1"], "", 3, 2))
        self.assertEqual(stops[7], ("steps", None, ["1"], "+1", 7, 2))
        self.assertEqual(stops[12], ("steps", None, ["1", "2"], "+1", 12, 2))

    def test_lists_are_the_askers_own(self):
        whole = term('(let u (say 1) (let u (wound "in" 1) (pair "worth" u)))')
        result = run_turned(whole, None)
        result.output.clear()
        result.winds.clear()
        self.assertEqual(told(run_turned(whole, None))[2:4], (["1"], "+1"))


if __name__ == "__main__":
    unittest.main()
