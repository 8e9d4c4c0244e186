"""Promises 5 and 7: what a term is, and with what check_term refuses."""

import itertools
import unittest

from tests.samples import MAKERS, NO_TERMS, deep, good, kinds_with_parts, leaf, leaves, made, with_part
from windpoints.errors import NoName, NoTerm
from windpoints.terms import check_term, paths
from windpoints.worths import OPS

ONE = ("num", 1)
LETTERS = "abcdefghijklmnopqrstuvwxyz"
FIGURES = "0123456789"
GOOD_NAMES = ["x", "z", "a1", "x0z9", "yes", "input", "num", "abcdefghijkl", "z99999999999"]
BAD_NAMES = [
    "", "abcdefghijklm", "1", "1x", "X", "xY", "x_", "_x", "x y", " x", "x ", "x-", "x.", "x\n", "\u00e9", "x\u00e9",
    "x\u0661", "`", "{", "x/", "x:", "x`", "x{", None, 5, True, ("x",), ["x"], (), [],
]
# For each place of a name or tag the term that has it there.
NAME_PLACES = {
    "name": lambda x: ("name", x),
    "fun": lambda x: ("fun", (x,), ONE),
    "fun second": lambda x: ("fun", ("pp", x), ONE),
    "rec": lambda x: ("rec", x, (), ONE),
    "rec names": lambda x: ("rec", "pp", ("qq", x), ONE),
    "let": lambda x: ("let", x, ONE, ONE),
    "guard": lambda x: ("guard", ONE, x, ONE),
    "catch": lambda x: ("catch", x, ONE),
    "mark": lambda x: ("mark", x, ONE),
    "take tag": lambda x: ("take", x, "p", ONE),
    "take name": lambda x: ("take", "p", x, ONE),
}
# Where a tuple of several stands: how many there may be, what may stand in it, and the term.
ROWS = {
    "fun": (0, 6, "names", lambda row: ("fun", row, ONE)),
    "rec": (0, 6, "names", lambda row: ("rec", "f", row, ONE)),
    "call": (0, 6, "parts", lambda row: ("call", ONE, row)),
    "do": (1, 12, "parts", lambda row: ("do", row)),
}


def row_of(what, many):
    if what == "names":
        return tuple("x" + str(number) for number in range(many))
    return tuple(leaves(many))


class Checks(unittest.TestCase):
    def assert_good(self, term, **names):
        self.assertIsNone(check_term(term, **names))

    def assert_no_term(self, thing, at):
        with self.assertRaises(NoTerm) as caught:
            check_term(thing)
        self.assertIsInstance(caught.exception.at, tuple)
        self.assertEqual(caught.exception.at, at)

    def assert_no_name(self, term, at, name, **names):
        with self.assertRaises(NoName) as caught:
            check_term(term, **names)
        self.assertEqual((caught.exception.at, caught.exception.name), (at, name))


class Forms(Checks):
    def test_a_good_term_of_each_kind(self):
        self.assertEqual(len(MAKERS), 25)
        for kind in MAKERS:
            with self.subTest(kind=kind):
                self.assert_good(good(kind))

    def test_each_kind_within_each_kind(self):
        for outer in kinds_with_parts():
            for at in range(MAKERS[outer][0]):
                for inner in MAKERS:
                    with self.subTest(outer=outer, at=at, inner=inner):
                        self.assert_good(with_part(outer, at, good(inner)))

    def test_what_is_no_term(self):
        for thing in NO_TERMS:
            with self.subTest(thing=thing):
                self.assert_no_term(thing, ())

    def test_what_is_no_term_as_a_part(self):
        for kind in kinds_with_parts():
            for at in range(MAKERS[kind][0]):
                for thing in NO_TERMS:
                    with self.subTest(kind=kind, at=at, thing=thing):
                        self.assert_no_term(with_part(kind, at, thing), (at,))
                        self.assert_no_term(("say", with_part(kind, at, thing)), (0, at))

    def test_too_short_and_too_long(self):
        for kind in MAKERS:
            term = good(kind)
            for longer in (ONE, (), (ONE,), "x", None):
                with self.subTest(kind=kind, longer=longer):
                    self.assert_no_term(term + (longer,), ())
            for many in range(1, len(term)):
                with self.subTest(kind=kind, many=many):
                    self.assert_no_term(term[:many], ())

    def test_lists_in_place_of_the_tuple(self):
        for kind in MAKERS:
            with self.subTest(kind=kind):
                self.assert_no_term(list(good(kind)), ())
                self.assert_no_term(("say", list(good(kind))), (0,))

    def test_words_of_no_kind(self):
        for kind in MAKERS:
            for word in (kind.upper(), kind + " ", kind + "x", "", kind[:-1] + "q", 5, True, None, (kind,), [kind]):
                with self.subTest(kind=kind, word=word):
                    self.assert_no_term((word,) + good(kind)[1:], ())

    def test_numbers(self):
        for number in (0, 1, -1, 10 ** 30 - 1, 1 - 10 ** 30):
            self.assert_good(("num", number))
        for thing in (True, False, None, "5", (), (5,), [5], 1.0):
            with self.subTest(thing=thing):
                self.assert_no_term(("num", thing), ())

    def test_texts_of_each_sign(self):
        for number in range(0, 300):
            text = "a" + chr(number) + "b"
            fits = 32 <= number <= 126 and text[1] not in ('"', "\\", "%")
            with self.subTest(number=number):
                if fits:
                    self.assert_good(("text", text))
                else:
                    self.assert_no_term(("text", text), ())

    def test_texts(self):
        for text in ("", " ", "~", "a" * 100):
            self.assert_good(("text", text))
        for thing in (None, True, 5, ("a",), ["a"], (), "\U0001f600", "a\n", "%", '"', "\\", "a" * 99 + "%"):
            with self.subTest(thing=thing):
                self.assert_no_term(("text", thing), ())

    def test_names_and_tags(self):
        for place, maker in NAME_PLACES.items():
            for name in GOOD_NAMES:
                with self.subTest(place=place, name=name):
                    self.assert_good(maker(name), names=GOOD_NAMES)
            for name in BAD_NAMES:
                with self.subTest(place=place, name=name):
                    self.assert_no_term(maker(name), ())

    def test_each_sign_of_names(self):
        for number in range(0, 300):
            sign = chr(number)
            for place, maker in NAME_PLACES.items():
                with self.subTest(place=place, number=number):
                    if sign in LETTERS:
                        self.assert_good(maker(sign), names=list(LETTERS))
                    else:
                        self.assert_no_term(maker(sign), ())
                    if sign in LETTERS + FIGURES:
                        self.assert_good(maker("w" + sign), names=["w" + sign])
                    else:
                        self.assert_no_term(maker("w" + sign), ())

    def test_how_many_stand_in_a_row(self):
        for place, (least, most, what, maker) in ROWS.items():
            for many in range(15):
                with self.subTest(place=place, many=many):
                    if least <= many <= most:
                        self.assert_good(maker(row_of(what, many)))
                    else:
                        self.assert_no_term(maker(row_of(what, many)), ())

    def test_rows_that_are_no_tuples(self):
        for place, (least, most, what, maker) in ROWS.items():
            for thing in (list(row_of(what, 2)), [], "xy", "x", "", 5, True, None, {"x": 1}):
                with self.subTest(place=place, thing=thing):
                    self.assert_no_term(maker(thing), ())

    def test_names_that_are_not_unlike(self):
        for term in (
            ("fun", ("x", "x"), ONE),
            ("fun", ("x", "y", "z", "x"), ONE),
            ("rec", "f", ("x", "x"), ONE),
            ("rec", "f", ("x", "y", "x"), ONE),
            ("rec", "f", ("f",), ONE),
            ("rec", "f", ("x", "f", "y"), ONE),
        ):
            with self.subTest(term=term):
                self.assert_no_term(term, ())

    def test_a_tag_and_a_name_may_be_alike(self):
        self.assert_good(("take", "x", "x", ("name", "x")))

    def test_ops(self):
        for word, many in OPS.items():
            for handed in range(5):
                with self.subTest(word=word, handed=handed):
                    if handed == many:
                        self.assert_good(("op", word, tuple(leaves(handed))))
                    else:
                        self.assert_no_term(("op", word, tuple(leaves(handed))), ())
            for thing in (leaves(many), "ab"[:many], None, 5, True):
                with self.subTest(word=word, thing=thing):
                    self.assert_no_term(("op", word, thing), ())

    def test_ops_of_no_word(self):
        for word in ("", "Plus", "plus ", "over", "tried", "wound", "point", "part", "inside", "num",
                     None, 5, True, ("plus",), ["plus"], ()):
            for many in range(4):
                with self.subTest(word=word, many=many):
                    self.assert_no_term(("op", word, tuple(leaves(many))), ())


class FirstPath(Checks):
    def test_the_own_things_come_ahead_of_the_parts(self):
        bad = ("num", True)
        for term in (
            ("if", bad, 5),
            ("if", bad, 5, 5, 5),
            ("call", bad, [5]),
            ("call", bad, tuple(leaves(7))),
            ("let", "X", bad, 5),
            ("fun", ("x", "x"), bad),
            ("rec", "f", ("f",), 5),
            ("do", tuple([bad] * 13)),
            ("op", "plus", (bad,)),
            ("op", "nought", (bad, bad)),
            ("guard", bad, "", bad),
            ("catch", "K", bad),
            ("mark", "T", bad),
            ("take", "t", "K", bad),
            ("take", "T", "k", bad),
        ):
            with self.subTest(term=term):
                self.assert_no_term(term, ())
                self.assert_no_term(("do", (ONE, term, bad)), (1,))

    def test_all_choices_of_wrong_parts_in_each_kind(self):
        for kind in kinds_with_parts():
            many = MAKERS[kind][0]
            for wrong in itertools.product((False, True), repeat=many):
                parts = [5 if is_wrong else leaf(at) for at, is_wrong in enumerate(wrong)]
                with self.subTest(kind=kind, wrong=wrong):
                    if True in wrong:
                        self.assert_no_term(made(kind, parts), (wrong.index(True),))
                    else:
                        self.assert_good(made(kind, parts))

    def test_an_inner_one_further_left_comes_first(self):
        self.assert_no_term(("if", ("if", ONE, ONE, 5), 5, 5), (0, 2))
        self.assert_no_term(("if", ("if", ONE, ("num", True), 5), ("num", True), 5), (0, 1))
        self.assert_no_term(("if", ONE, ("set", ("say", 5), 6), 7), (1, 0, 0))
        self.assert_no_term(("call", ("fun", (), ("num", None)), (5,)), (0, 0))

    def test_the_parts_of_a_call_and_a_do_are_numbered_on(self):
        self.assert_no_term(("call", ONE, ("num", 1)), (1,))
        self.assert_no_term(("call", ONE, (ONE, ONE, ["num", 1])), (3,))
        self.assert_no_term(("do", ("num", 1)), (0,))
        self.assert_no_term(("do", (ONE,) * 11 + (5,)), (11,))

    def test_deep_ones(self):
        for many in (40, 300):
            self.assert_good(deep(many, ONE))
            self.assert_no_term(deep(many, 5), (1,) * many)
            self.assert_no_name(deep(many, ("name", "x")), (1,) * many, "x")

    def test_four_hundred_places(self):
        row = ("do", tuple(leaves(12)))
        # 1 + 30 * 13 + 9 places: a row of rows has at most twelve.
        term = ("do", (
            ("do", (row,) * 12), ("do", (row,) * 12), ("do", (row,) * 6), ("do", tuple(leaves(5))),
        ))
        self.assertEqual(len(paths(term)), 400)
        self.assert_good(term)
        self.assert_no_term(("do", (term, 5)), (1,))


class Names(Checks):
    def test_input_alone_is_let_where_not_told(self):
        self.assert_good(("name", "input"))
        self.assert_no_name(("name", "x"), (), "x")

    def test_names_let(self):
        for names in (("x", "y"), ["x", "y"]):
            self.assert_good(("name", "x"), names=names)
            self.assert_good(("set", ("name", "y"), ("name", "x")), names=names)
            self.assert_no_name(("name", "input"), (), "input", names=names)
            self.assert_no_name(("name", "z"), (), "z", names=names)
        for names in ((), []):
            self.assert_no_name(("name", "input"), (), "input", names=names)
            self.assert_good(("num", 1), names=names)
            self.assert_good(("let", "x", ONE, ("name", "x")), names=names)

    def test_names_are_let_as_wholes(self):
        self.assert_no_name(("name", "inp"), (), "inp")
        self.assert_no_name(("name", "x"), (), "x", names=("xy",))

    def test_the_first_place_is_told(self):
        x, y = ("name", "x"), ("name", "y")
        self.assert_no_name(("do", (ONE, y, x)), (1,), "y")
        self.assert_no_name(("do", (ONE, y, x)), (2,), "x", names=("y",))
        self.assert_no_name(("call", ("fun", ("x",), ("set", x, y)), (x,)), (0, 0, 1), "y")
        self.assert_no_name(("if", ("say", ("say", x)), y, y), (0, 0, 0), "x")

    def test_names_come_behind_all_that_is_no_term(self):
        x = ("name", "x")
        self.assert_no_term(("do", (x, x, 5)), (2,))
        self.assert_no_term(("do", (x, ("say", ("num", True)))), (1, 0))

    def test_binding_in_the_last_part_alone(self):
        x = ("name", "x")
        self.assert_good(("fun", ("y", "x"), x))
        self.assert_good(("rec", "f", ("y", "x"), ("call", ("name", "f"), (x, ("name", "y")))))
        self.assert_good(("catch", "x", x))
        self.assert_good(("take", "t", "x", x))
        self.assert_no_name(("take", "x", "t", x), (0,), "x")
        self.assert_no_name(("mark", "x", x), (0,), "x")
        self.assert_good(("let", "x", ONE, x))
        self.assert_no_name(("let", "x", x, ONE), (0,), "x")
        self.assert_good(("guard", ONE, "x", x))
        self.assert_no_name(("guard", x, "x", ONE), (0,), "x")
        self.assert_no_name(("do", (("fun", ("x",), x), x)), (1,), "x")

    def test_names_are_handed_in_by_name_alone(self):
        with self.assertRaises(TypeError):
            check_term(("name", "x"), ("x",))
        self.assertIsNone(check_term(term=("name", "x"), names=("x",)))
        with self.assertRaises(NoName):
            check_term(names=[], term=("name", "x"))

    def test_nothing_handed_in_is_changed(self):
        names = ["x", "y"]
        thing = ["do", [["num", 1]]]
        check_term(("name", "x"), names=names)
        self.assertEqual(names, ["x", "y"])
        self.assert_no_term(("say", thing), (0,))
        self.assertEqual(thing, ["do", [["num", 1]]])

    def test_a_list_of_names_changed_later(self):
        names = ["x"]
        self.assert_good(("name", "x"), names=names)
        names.clear()
        self.assert_no_name(("name", "x"), (), "x", names=names)
        names.append("x")
        self.assert_good(("name", "x"), names=names)


if __name__ == "__main__":
    unittest.main()
