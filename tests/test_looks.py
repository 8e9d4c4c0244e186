"""Promises 23 and 25: last_places and escapes."""

import unittest

from tests.reading import term
from tests.samples import deep
from windpoints.looks import escapes, last_places

# C stands for a call; in these it is in last place where the whole is.
LASTS = [
    ("C", ()),
    ("(let x 1 C)", (1,)),
    ("(if yes C 2)", (1,)),
    ("(if yes 1 C)", (2,)),
    ("(do C)", (0,)),
    ("(do 1 2 C)", (2,)),
    ("(guard 1 x C)", (1,)),
    ("(catch k C)", (0,)),
    ("(take t k C)", (0,)),
    ("(let x 1 (do 2 (if yes 3 (catch k (take t j (guard 4 z C))))))", (1, 1, 2, 0, 0, 1)),
]
# In these it is not.
OTHERS = [
    "(call C)", "(call 1 C)", "(call 1 2 C 3)", "(let x C 1)", "(if C 1 2)", "(do C 1)", "(do 1 C 2)", "(guard C x 1)",
    "(plus C 1)", "(plus 1 C)", "(kind C)", "(cell C)", "(get C)", "(set C 1)", "(set 1 C)", "(say C)", "(fault C)",
    "(wind C 1 2)", "(wind 1 C 2)", "(wind 1 2 C)", "(go C 1)", "(go 1 C)", "(mark t C)", "(use C 1)", "(use 1 C)",
    "(say (take t k C))", "(let x (take t k C) 1)", "(mark t (take t k C))", "(mark t (do C))", "(guard (do 1 C) x 2)",
    "(say (let x 1 (do 2 C)))",
]
CALL = "(call input 7)"


def with_call(text):
    return text.replace("C", CALL)


class LastPlaces(unittest.TestCase):
    def test_none(self):
        for text in ("1", "(fun () 1)", "(do 1 2)", "(catch k (go k 1))"):
            self.assertEqual(last_places(term(text)), [])

    def test_of_the_term_itself(self):
        for text, path in LASTS:
            with self.subTest(term=text):
                self.assertEqual(last_places(term(with_call(text))), [path])

    def test_of_a_body(self):
        for text, path in LASTS:
            with self.subTest(term=text):
                self.assertEqual(last_places(term(f"(say (fun (x) {with_call(text)}))")), [(0, 0) + path])
                self.assertEqual(last_places(term(f"(say (rec f () {with_call(text)}))")), [(0, 0) + path])
                self.assertEqual(last_places(term(f"(fun () (say (fun (x) {with_call(text)})))")), [(0, 0, 0) + path])

    def test_what_is_waited_for(self):
        for text in OTHERS:
            with self.subTest(term=text):
                whole = term(with_call(text))
                own = [()] if whole[0] == "call" else []
                self.assertEqual(last_places(whole), own)
                body = term(f"(say (fun () {with_call(text)}))")
                self.assertEqual(last_places(body), [(0, 0)] if own else [])

    def test_several_in_paths_order(self):
        whole = term(
            "(if (call input) (let x (fun () (call input 1)) (call x)) (do (call input 2) (guard (call input 3) y (call input))))")
        self.assertEqual(last_places(whole), [(1, 0, 0), (1, 1), (2, 1, 1)])
        whole = term("(call (fun (x) (call x)) (rec f () (if yes (call f) (say (call f)))))")
        self.assertEqual(last_places(whole), [(), (0, 0), (1, 0, 1)])

    def test_a_body_in_each_part(self):
        for text in OTHERS:
            with self.subTest(term=text):
                whole = term(text.replace("C", "(fun () (call input))"))
                self.assertEqual(len(last_places(whole)), 2 if whole[0] == "call" else 1)

    def test_deep_ones_and_the_askers_own(self):
        whole = deep(300, term("(call (fun () 1))"))
        self.assertEqual(last_places(whole), [(1,) * 300])
        last_places(whole).clear()
        self.assertEqual(last_places(term=whole), [(1,) * 300])


class Escapes(unittest.TestCase):
    def assert_told(self, text, *rows):
        self.assertEqual(escapes(term(text)), list(rows))

    def test_no_catch(self):
        for text in ("1", "(take t k k)", "(fun (k) k)"):
            self.assert_told(text)

    def test_moved(self):
        for text in (
            "(catch k 1)",
            "(catch k (go k 1))",
            "(catch k (do (go k 1) (go k 2)))",
            "(catch k (wind (go k 1) (go k 2) (guard (go k 3) x (go k x))))",
            "(catch k (let f (fun () 1) (go k (call f))))",
            "(catch k (go k (go k 1)))",
            "(catch k (mark t (use input (go k 1))))",
        ):
            with self.subTest(term=text):
                self.assert_told(text, ((), None))

    def test_within_a_fun_that_the_catch_lies_in(self):
        self.assert_told("(fun (x) (catch k (go k x)))", ((0,), None))
        self.assert_told("(rec f (x) (say (catch k (go k x))))", ((0, 0), None))

    def test_a_place_that_is_no_first_part_of_a_go(self):
        for text, at in (
            ("(catch k k)", (0,)),
            ("(catch k (go 1 k))", (0, 1)),
            ("(catch k (go (do k) 1))", (0, 0, 0)),
            ("(catch k (go (if yes k k) 1))", (0, 0, 1)),
            ("(catch k (call k))", (0, 0)),
            ("(catch k (set input k))", (0, 1)),
            ("(catch k (use k 1))", (0, 0)),
            ("(catch k (let j k (go j 1)))", (0, 0)),
            ("(catch k (go k k))", (0, 1)),
            ("(catch k (fault k))", (0, 0)),
        ):
            with self.subTest(term=text):
                self.assert_told(text, ((), at))

    def test_a_place_within_a_fun_or_rec_within_the_catch(self):
        self.assert_told("(catch k (fun () (go k 1)))", ((), (0, 0, 0)))
        self.assert_told("(catch k (rec f (x) (do x (go k 1))))", ((), (0, 0, 1, 0)))
        self.assert_told("(catch k (call (fun (x) (let y x (go k y))) 1))", ((), (0, 0, 0, 1, 0)))
        self.assert_told("(fun () (catch k (fun () (go k 1))))", ((0,), (0, 0, 0, 0)))
        self.assert_told("(catch k (fun () (fun () k)))", ((), (0, 0, 0)))

    def test_the_first_of_several(self):
        self.assert_told("(catch k (do (go k 1) (fun () (go k 2)) k))", ((), (0, 1, 0, 0)))
        self.assert_told("(catch k (do (go k 1) k (fun () (go k 2))))", ((), (0, 1)))
        self.assert_told("(catch k (do (go k k) k))", ((), (0, 0, 1)))
        # A place of the name comes ahead of a take, wherever that stands.
        self.assert_told("(do (mark t (take t j 1)) (catch k (do (go k 1) k)))", ((1,), (1, 0, 1)))

    def test_the_first_take_of_the_whole_term(self):
        self.assert_told("(catch k (mark t (take t j (go k 1))))", ((), (0, 0)))
        self.assert_told("(do (catch k (go k 1)) (mark t (take t j 1)) (take s j 1))", ((0,), (1, 0)))
        self.assert_told("(do (take t j (take s j 1)) (catch k 1))", ((1,), (0,)))
        self.assert_told("(do (fun () (take t j 1)) (catch k (go k 1)))", ((1,), (0, 0)))
        self.assert_told("(take t j (catch k 1))", ((0,), ()))

    def test_a_name_bound_anew_within(self):
        for text in (
            "(catch k (let k 1 k))",
            "(catch k (fun (k) k))",
            "(catch k (rec k () k))",
            "(catch k (rec f (k) k))",
            "(catch k (guard (go k 1) k k))",
        ):
            with self.subTest(term=text):
                self.assert_told(text, ((), None))
        self.assert_told("(catch k (let k k 1))", ((), (0, 0)))
        self.assert_told("(catch k (guard k k 1))", ((), (0, 0)))
        self.assert_told("(catch k (catch k k))", ((), None), ((0,), (0, 0)))
        self.assert_told("(catch k (do (catch k (go k 1)) k))", ((), (0, 1)), ((0, 0), None))
        self.assert_told("(catch k (take t k k))", ((), (0,)))
        self.assert_told("(let k 1 (do k (catch k (go k k))))", ((1, 1), (1, 1, 0, 1)))

    def test_several_catches_in_paths_order(self):
        self.assert_told(
            "(do (catch a (catch b (do (go a 1) b))) (catch c (fun () (catch d (go d (go c 1))))))",
            ((0,), None), ((0, 0), (0, 0, 0, 1)), ((1,), (1, 0, 0, 0, 1, 0)), ((1, 0, 0), None))
        self.assert_told("(catch a (catch b (go a (fun () (go b 1)))))", ((), None), ((0,), (0, 0, 1, 0, 0)))

    def test_names_of_others_are_no_matter(self):
        self.assert_told("(let j 1 (catch k (do j (fun () j) input)))", ((1,), None))
        self.assert_told("(do (catch k (go k 1)) (let k 1 k))", ((0,), None))

    def test_deep_ones_and_the_askers_own(self):
        whole = ("catch", "k", deep(298, ("name", "k")))
        self.assertEqual(escapes(whole), [((), (0,) + (1,) * 298)])
        escapes(whole).clear()
        self.assertEqual(escapes(term=whole), [((), (0,) + (1,) * 298)])


if __name__ == "__main__":
    unittest.main()
