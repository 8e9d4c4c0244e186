"""Promises 8 and 9: Pair, shown, chain and unchained."""

import unittest

from windpoints.errors import NoChain
from windpoints.worths import Cell, Fun, Pair, Part, Point, chain, shown, unchained

FUN, CELL, POINT, PART = Fun(), Cell(), Point(), Part()
# Worths without parts that are the same as themselves alone, of each kind that can be.
LEAVES = [
    0, 1, -1, 2, 10 ** 60 - 1, 1 - 10 ** 60, "", " ", "1", "yes", "none", "fun", "True", "a" * 400,
    True, False, None, CELL, Cell(),
]
NEVER_SAME = [FUN, POINT, PART]
OTHERS = [5, "a", True, None, (1, 2), [1, 2], {"first": 1, "rest": 2}, object(), FUN, CELL, POINT, PART, Pair]


def by_firsts(many, inner):
    worth = inner
    for number in range(many):
        worth = Pair(worth, number)
    return worth


def by_rests(many, inner):
    worth = inner
    for number in range(many):
        worth = Pair(number, worth)
    return worth


class LooksSame:
    first = 1
    rest = 2

    def __eq__(self, other):
        return True


class Pairs(unittest.TestCase):
    def test_fields_by_places_and_by_names(self):
        first, rest = object(), object()
        for pair in (Pair(first, rest), Pair(rest=rest, first=first)):
            self.assertIs(pair.first, first)
            self.assertIs(pair.rest, rest)

    def assert_equal(self, one, two, told):
        self.assertIs(one == two, told)
        self.assertIs(two == one, told)
        self.assertIs(one != two, not told)

    def test_equal_just_where_both_parts_are_the_same(self):
        for at, one in enumerate(LEAVES):
            for other_at, two in enumerate(LEAVES):
                with self.subTest(one=one, two=two):
                    self.assert_equal(Pair(one, 7), Pair(two, 7), at == other_at)
                    self.assert_equal(Pair(7, one), Pair(7, two), at == other_at)
                    self.assert_equal(Pair(Pair(7, one), 8), Pair(Pair(7, two), 8), at == other_at)

    def test_the_parts_in_their_order(self):
        self.assert_equal(Pair(1, 2), Pair(2, 1), False)
        self.assert_equal(Pair(1, Pair(2, 3)), Pair(Pair(1, 2), 3), False)
        self.assert_equal(Pair(1, Pair(2, 3)), Pair(1, Pair(2, 3)), True)
        self.assert_equal(Pair(1, Pair(2, 3)), Pair(1, 2), False)

    def test_what_holds_a_fun_a_point_or_a_part_is_equal_to_none(self):
        for held in NEVER_SAME:
            for pair in (Pair(held, 1), Pair(1, held), Pair(Pair(1, held), 2), Pair(1, Pair(held, 2)), Pair(held, held)):
                with self.subTest(held=held):
                    self.assert_equal(pair, pair, False)
                    self.assert_equal(pair, Pair(pair.first, pair.rest), False)
            for other in LEAVES + [Pair(1, 2)]:
                self.assert_equal(Pair(held, 1), Pair(other, 1), False)

    def test_never_equal_to_another_thing(self):
        for other in OTHERS:
            with self.subTest(other=other):
                self.assert_equal(Pair(1, 2), other, False)
        self.assertFalse(Pair(1, 2) == LooksSame())

    def test_no_object_is_equal_to_a_thing_of_another_kind(self):
        for one in (Fun(), Cell(), Point(), Part()):
            for other in OTHERS:
                with self.subTest(one=one, other=other):
                    self.assert_equal(one, other, False)

    def test_deep_ones(self):
        for many in (30, 400):
            for maker in (by_firsts, by_rests):
                self.assert_equal(maker(many, 1), maker(many, 1), True)
                self.assert_equal(maker(many, 1), maker(many, True), False)
                self.assert_equal(maker(many, FUN), maker(many, FUN), False)


class Shown(unittest.TestCase):
    def test_each_kind(self):
        for worth, text in (
            (0, "0"), (7, "7"), (-7, "-7"), (120, "120"),
            (10 ** 60 - 1, "9" * 60), (1 - 10 ** 60, "-" + "9" * 60),
            ("", '""'), ("a b", '"a b"'), (" ", '" "'), ("yes", '"yes"'), ("(1 . 2)", '"(1 . 2)"'), ("'", '"\'"'),
            (True, "yes"), (False, "no"), (None, "none"),
            (FUN, "fun"), (CELL, "cell"), (POINT, "point"), (PART, "part"),
        ):
            with self.subTest(text=text):
                self.assertEqual(shown(worth), text)
                self.assertEqual(shown(Pair(worth, 1)), "(" + text + " . 1)")
                self.assertEqual(shown(Pair(1, worth)), "(1 . " + text + ")")

    def test_pairs_within_pairs(self):
        self.assertEqual(shown(Pair(1, Pair(2, 3))), "(1 . (2 . 3))")
        self.assertEqual(shown(Pair(Pair(1, 2), 3)), "((1 . 2) . 3)")
        self.assertEqual(shown(Pair(Pair("a", True), Pair(False, None))), '(("a" . yes) . (no . none))')

    def test_a_text_is_never_taken_for_a_sign(self):
        self.assertEqual(shown(Pair("sign", ")")), '("sign" . ")")')

    def test_deep_and_long_ones(self):
        self.assertEqual(shown(by_rests(400, None)), "".join(f"({at} . " for at in range(399, -1, -1)) + "none" + ")" * 400)
        for many in (30, 400):
            told = "(" * many + "none" + "".join(f" . {at})" for at in range(many))
            self.assertEqual(shown(by_firsts(many, None)), told)
        self.assertEqual(shown("a" * 400), '"' + "a" * 400 + '"')

    def test_by_name_and_again(self):
        pair = Pair(1, None)
        self.assertEqual([shown(worth=pair), shown(pair)], ["(1 . none)"] * 2)


class Chains(unittest.TestCase):
    def test_none_one_and_many(self):
        self.assertIsNone(chain([]))
        self.assertEqual(chain([5]), Pair(5, None))
        self.assertEqual(chain([1, "a", True, None]), Pair(1, Pair("a", Pair(True, Pair(None, None)))))
        self.assertEqual(chain([Pair(1, 2), Pair(3, None)]), Pair(Pair(1, 2), Pair(Pair(3, None), None)))

    def test_unchained_leads_back(self):
        for worths in ([], [5], [None], [None, None], [1, "a", True], [Pair(1, 2), Pair(3, None)], list(range(400))):
            with self.subTest(worths=len(worths)):
                self.assertEqual(unchained(chain(worths)), worths)
        self.assertIs(unchained(chain([FUN, CELL]))[0], FUN)

    def test_a_long_chain(self):
        told = chain(list(range(400)))
        for number in range(400):
            self.assertEqual(told.first, number)
            told = told.rest
        self.assertIsNone(told)

    def test_no_chain(self):
        for worth in (
            0, 5, -1, "", "a", True, False, FUN, CELL, POINT, PART, Pair(1, 2), Pair(1, ""), Pair(1, False), Pair(None, 0),
            Pair(Pair(1, None), 2), Pair(1, Pair(2, 3)), Pair(1, FUN), by_rests(400, 0),
        ):
            with self.subTest(worth=shown(worth)):
                with self.assertRaises(NoChain) as caught:
                    unchained(worth)
                self.assertIsInstance(caught.exception, ValueError)
                self.assertIs(caught.exception.at, worth)

    def test_first_parts_need_be_no_chains(self):
        self.assertEqual(unchained(Pair(Pair(1, 2), None)), [Pair(1, 2)])

    def test_lists_are_left_alone_and_ones_own(self):
        worths = [1, 2, 3]
        told = chain(worths=worths)
        self.assertEqual(worths, [1, 2, 3])
        worths.append(4)
        self.assertEqual(unchained(told), [1, 2, 3])
        unchained(worth=told).clear()
        self.assertEqual(unchained(told), [1, 2, 3])
        self.assertEqual(chain([1, 2, 3]), told)


if __name__ == "__main__":
    unittest.main()
