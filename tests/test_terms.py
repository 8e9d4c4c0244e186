"""Promise 6: paths, part_at and free_names."""

import unittest

from tests.samples import MAKERS, deep, good, kinds_with_parts, leaf, leaves, made, with_part
from windpoints.errors import NoPath
from windpoints.terms import free_names, part_at, paths

X = ("name", "x")
Y = ("name", "y")
ONE = ("num", 1)


class Paths(unittest.TestCase):
    def test_a_term_of_each_kind(self):
        for kind, (many, _) in MAKERS.items():
            with self.subTest(kind=kind):
                self.assertEqual(paths(good(kind)), [()] + [(at,) for at in range(many)])

    def test_each_kind_within_each_kind(self):
        for outer in kinds_with_parts():
            for at in range(MAKERS[outer][0]):
                for inner in MAKERS:
                    told = [()]
                    for number in range(MAKERS[outer][0]):
                        told.append((number,))
                        if number == at:
                            told.extend((number, deeper) for deeper in range(MAKERS[inner][0]))
                    with self.subTest(outer=outer, at=at, inner=inner):
                        self.assertEqual(paths(with_part(outer, at, good(inner))), told)

    def test_each_ahead_of_its_parts_and_the_parts_in_turn(self):
        term = ("call", ("fun", ("x",), ("set", X, ONE)), (("if", ONE, ("say", ONE), ONE), ("none",)))
        self.assertEqual(paths(term), [
            (), (0,), (0, 0), (0, 0, 0), (0, 0, 1), (1,), (1, 0), (1, 1), (1, 1, 0), (1, 2), (2,),
        ])

    def test_rows_of_none_and_of_many(self):
        self.assertEqual(paths(("call", ONE, ())), [(), (0,)])
        self.assertEqual(paths(("call", ONE, tuple(leaves(6)))), [()] + [(at,) for at in range(7)])
        self.assertEqual(paths(("do", (ONE,))), [(), (0,)])
        self.assertEqual(paths(("do", tuple(leaves(12)))), [()] + [(at,) for at in range(12)])
        self.assertEqual(paths(("op", "kind", (ONE,))), [(), (0,)])

    def test_deep_ones(self):
        for many in (40, 300):
            told = paths(deep(many, ONE))
            self.assertEqual(len(told), 2 * many + 1)
            self.assertEqual(told[0], ())
            self.assertEqual(told[1:3], [(0,), (1,)])
            self.assertEqual(told[-2:], [(1,) * (many - 1) + (0,), (1,) * many])

    def test_the_list_is_the_askers_own(self):
        term = ("do", (ONE, ONE))
        told = paths(term=term)
        told.clear()
        self.assertEqual(paths(term), [(), (0,), (1,)])


class PartAt(unittest.TestCase):
    def assert_no_path(self, term, path):
        with self.assertRaises(NoPath) as caught:
            part_at(term, path)
        self.assertIsInstance(caught.exception, LookupError)
        self.assertIs(type(caught.exception.at), tuple)
        self.assertEqual(repr(caught.exception.at), repr(path))

    def test_the_parts_of_each_kind(self):
        for kind, (many, _) in MAKERS.items():
            parts = leaves(many)
            term = made(kind, parts)
            self.assertIs(part_at(term, ()), term)
            for at, part in enumerate(parts):
                with self.subTest(kind=kind, at=at):
                    self.assertIs(part_at(term, (at,)), part)

    def test_the_parts_of_parts(self):
        for outer in kinds_with_parts():
            for at in range(MAKERS[outer][0]):
                for inner in kinds_with_parts():
                    term = with_part(outer, at, good(inner))
                    for deeper in range(MAKERS[inner][0]):
                        with self.subTest(outer=outer, at=at, inner=inner, deeper=deeper):
                            self.assertEqual(part_at(term, (at, deeper)), leaf(deeper))

    def test_at_every_path_of_a_term(self):
        term = ("call", ("fun", ("x",), ("set", X, ONE)), (("if", ONE, ("say", Y), X), ("none",)))
        self.assertEqual([part_at(term, path) for path in paths(term)], [
            term, ("fun", ("x",), ("set", X, ONE)), ("set", X, ONE), X, ONE,
            ("if", ONE, ("say", Y), X), ONE, ("say", Y), Y, X, ("none",),
        ])

    def test_no_part_of_each_kind(self):
        for kind, (many, _) in MAKERS.items():
            for path in ((many,), (many + 1,), (-1,), (-many - 1,), (True,), (False,), (10 ** 30,)):
                with self.subTest(kind=kind, path=path):
                    self.assert_no_path(good(kind), path)
                    self.assert_no_path(("say", good(kind)), (0,) + path)

    def test_too_many_numbers(self):
        self.assert_no_path(ONE, (0,))
        self.assert_no_path(("say", ONE), (0, 0))
        self.assert_no_path(("say", ONE), (0, 0, 0, 0))

    def test_the_whole_path_is_told_wherever_it_leads_off(self):
        term = ("do", (ONE, ("set", ONE, ONE)))
        for path in ((2, 0, 1), (1, 2, 0), (1, 0, 0, 7), (-1, 0), (1, -1), (1, -2), (True, 0), (1, True), (1, False, 0)):
            with self.subTest(path=path):
                self.assert_no_path(term, path)

    def test_other_things_than_numbers(self):
        for thing in (None, "0", "", (0,), (), 0.0):
            with self.subTest(thing=thing):
                self.assert_no_path(("say", ONE), (thing,))

    def test_deep_ones(self):
        for many in (40, 300):
            self.assertEqual(part_at(deep(many, X), (1,) * many), X)
            self.assert_no_path(deep(many, X), (1,) * many + (0,))

    def test_by_names(self):
        self.assertEqual(part_at(path=(0,), term=("say", X)), X)


class FreeNames(unittest.TestCase):
    def test_none_where_no_name_stands(self):
        for kind in MAKERS:
            with self.subTest(kind=kind):
                self.assertEqual(free_names(good(kind)), ["input"] if kind == "name" else [])

    def test_in_each_part_of_each_kind(self):
        for kind in kinds_with_parts():
            for at in range(MAKERS[kind][0]):
                with self.subTest(kind=kind, at=at):
                    self.assertEqual(free_names(with_part(kind, at, ("name", "w"))), ["w"])

    def test_rising_and_each_once(self):
        names = ["b", "a10", "a", "z", "a2", "b", "a", "input"]
        term = ("do", tuple(("name", name) for name in names))
        self.assertEqual(free_names(term), ["a", "a10", "a2", "b", "input", "z"])

    def test_inside_and_outside_of_what_binds(self):
        for term, told in (
            (("fun", ("x", "y"), ("set", X, Y)), []),
            (("fun", ("y",), ("set", X, Y)), ["x"]),
            (("fun", (), X), ["x"]),
            (("do", (("fun", ("x",), X), X)), ["x"]),
            (("call", ("fun", ("x",), X), (X,)), ["x"]),
            (("rec", "x", ("y",), ("set", X, Y)), []),
            (("rec", "y", ("x",), ("set", X, Y)), []),
            (("rec", "f", ("y",), ("set", X, Y)), ["x"]),
            (("call", ("rec", "x", (), X), (Y, X)), ["x", "y"]),
            (("let", "x", ONE, X), []),
            (("let", "x", X, ONE), ["x"]),
            (("let", "x", Y, X), ["y"]),
            (("let", "x", X, Y), ["x", "y"]),
            (("guard", ONE, "x", X), []),
            (("guard", X, "x", ONE), ["x"]),
            (("guard", Y, "x", X), ["y"]),
            (("guard", X, "x", Y), ["x", "y"]),
            (("catch", "x", X), []),
            (("catch", "x", Y), ["y"]),
            (("do", (("catch", "x", X), X)), ["x"]),
            (("take", "t", "x", X), []),
            (("take", "x", "t", X), ["x"]),
            (("take", "t", "x", Y), ["y"]),
            (("do", (("take", "t", "x", X), X)), ["x"]),
            (("mark", "x", X), ["x"]),
        ):
            with self.subTest(term=term):
                self.assertEqual(free_names(term), told)

    def test_bound_anew_within(self):
        for term, told in (
            (("fun", ("x",), ("let", "x", X, X)), []),
            (("fun", ("x",), ("do", (("let", "x", ONE, X), X))), []),
            (("let", "x", ("let", "x", ONE, X), X), []),
            (("let", "x", ("let", "x", X, ONE), X), ["x"]),
            (("guard", ("catch", "x", X), "x", ("set", X, ("fun", ("x",), X))), []),
            (("catch", "x", ("take", "t", "x", ("rec", "x", (), X))), []),
            (("do", (("let", "x", ONE, ("fun", ("y",), ("set", X, Y))), Y)), ["y"]),
        ):
            with self.subTest(term=term):
                self.assertEqual(free_names(term), told)

    def test_deep_ones(self):
        for many in (40, 300):
            self.assertEqual(free_names(deep(many, X)), ["x"])
            self.assertEqual(free_names(("fun", ("x",), deep(many - 1, X))), [])

    def test_deep_binders(self):
        term = ("name", "a0")
        for number in range(300):
            term = ("fun", ("a" + str(number), "b" + str(number)), term)
        self.assertEqual(free_names(term), [])
        self.assertEqual(free_names(part_at(term, (0,) * 300)), ["a0"])

    def test_the_list_is_the_askers_own(self):
        told = free_names(term=("set", X, Y))
        told.append("z")
        self.assertEqual(free_names(("set", X, Y)), ["x", "y"])


if __name__ == "__main__":
    unittest.main()
