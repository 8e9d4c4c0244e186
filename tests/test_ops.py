"""Promise 8: OPS and op_worth."""

import unittest

from windpoints.worths import OPS, Cell, Fun, Pair, Part, Point, chain, op_worth

FUN, CELL, POINT, PART = Fun(), Cell(), Point(), Part()
PAIR = Pair(1, "a")
# Worths of each kind, by the word that kind tells of them.
WORTHS = {
    "number": [0, 7, -7, 10 ** 60 - 1],
    "text": ["", "a", "7", "number"],
    "truth": [True, False],
    "none": [None],
    "pair": [PAIR, Pair(None, None), Pair(FUN, CELL)],
    "fun": [FUN],
    "cell": [CELL],
    "point": [POINT],
    "part": [PART],
}
GREATEST = 10 ** 60 - 1


def all_worths():
    return [worth for kind in WORTHS for worth in WORTHS[kind]]


def all_but(kind):
    return [worth for other in WORTHS if other != kind for worth in WORTHS[other]]


def pairs(many):
    return chain([0] * many)


class Ops(unittest.TestCase):
    def assert_worth(self, word, worths, told):
        answer = op_worth(word, worths)
        self.assertIs(type(answer), tuple)
        self.assertEqual(len(answer), 2)
        self.assertEqual(answer[0], "worth")
        self.assertIs(type(answer[1]), type(told))
        self.assertEqual(answer[1], told)

    def assert_fault(self, word, worths, text):
        self.assertEqual(op_worth(word, worths), ("fault", text))


class Words(Ops):
    def test_how_many_parts_each_word_has(self):
        self.assertIs(type(OPS), dict)
        self.assertEqual(OPS, {
            "plus": 2, "minus": 2, "times": 2, "less": 2, "same": 2, "joined": 2, "pair": 2,
            "first": 1, "rest": 1, "kind": 1, "written": 1,
        })

    def test_every_word_tells_an_end_of_worths_of_each_kind(self):
        for word, many in OPS.items():
            for one in all_worths():
                for worths in ([[one]] if many == 1 else [[one, two] for two in all_worths()]):
                    with self.subTest(word=word, worths=worths):
                        self.assertIn(op_worth(word, worths)[0], ("worth", "fault"))

    def test_by_names_and_the_list_is_left_alone(self):
        worths = [1, 2]
        self.assertEqual(op_worth(worths=worths, word="plus"), ("worth", 3))
        self.assertEqual(worths, [1, 2])
        told = op_worth("pair", worths)[1]
        worths[0] = 9
        self.assertEqual(told, Pair(1, 2))
        self.assertEqual(op_worth("pair", [1, 2]), ("worth", told))


class Numbers(Ops):
    def test_plus_minus_and_times(self):
        self.assert_worth("plus", [2, 3], 5)
        self.assert_worth("plus", [2, -3], -1)
        self.assert_worth("minus", [2, 3], -1)
        self.assert_worth("minus", [3, -2], 5)
        self.assert_worth("times", [4, -3], -12)
        self.assert_worth("times", [-4, -3], 12)
        self.assert_worth("times", [0, 5], 0)

    def test_less(self):
        for one in (-2, -1, 0, 1, 2, GREATEST, -GREATEST):
            for two in (-2, -1, 0, 1, 2, GREATEST, -GREATEST):
                self.assert_worth("less", [one, two], one < two)

    def test_no_number(self):
        for word in ("plus", "minus", "times", "less"):
            for other in all_but("number"):
                with self.subTest(word=word, other=other):
                    self.assert_fault(word, [other, 1], "no number")
                    self.assert_fault(word, [1, other], "no number")
                    self.assert_fault(word, [other, other], "no number")
                    self.assert_fault(word, [GREATEST, other], "no number")

    def test_sixty_figures_and_sixty_one(self):
        self.assert_worth("plus", [GREATEST - 1, 1], GREATEST)
        self.assert_fault("plus", [GREATEST, 1], "too great")
        self.assert_worth("plus", [1 - GREATEST, -1], -GREATEST)
        self.assert_fault("plus", [-GREATEST, -1], "too great")
        self.assert_worth("minus", [-1, GREATEST - 1], -GREATEST)
        self.assert_fault("minus", [-1, GREATEST], "too great")
        self.assert_worth("minus", [1, 1 - GREATEST], GREATEST)
        self.assert_fault("minus", [1, -GREATEST], "too great")
        self.assert_worth("times", [10 ** 30, 10 ** 29], 10 ** 59)
        self.assert_fault("times", [10 ** 30, 10 ** 30], "too great")
        self.assert_worth("times", [10 ** 30, -(10 ** 29)], -(10 ** 59))
        self.assert_fault("times", [-(10 ** 30), 10 ** 30], "too great")
        self.assert_fault("times", [GREATEST, GREATEST], "too great")


class Texts(Ops):
    def test_joined(self):
        self.assert_worth("joined", ["ab", "cd"], "abcd")
        self.assert_worth("joined", ["", ""], "")

    def test_no_text(self):
        for other in all_but("text"):
            with self.subTest(other=other):
                self.assert_fault("joined", [other, "a"], "no text")
                self.assert_fault("joined", ["a", other], "no text")
                self.assert_fault("joined", ["a" * 400, other], "no text")

    def test_four_hundred_signs_and_one_more(self):
        self.assert_worth("joined", ["a" * 200, "b" * 200], "a" * 200 + "b" * 200)
        self.assert_worth("joined", ["", "b" * 400], "b" * 400)
        self.assert_fault("joined", ["a" * 200, "b" * 201], "too long")
        self.assert_fault("joined", ["a" * 400, "b" * 400], "too long")

    def test_written(self):
        for worth, text in (
            (-12, "-12"), ("a b", '"a b"'), (True, "yes"), (False, "no"), (None, "none"),
            (Pair(1, Pair("a", None)), '(1 . ("a" . none))'), (FUN, "fun"), (CELL, "cell"), (POINT, "point"), (PART, "part"),
        ):
            with self.subTest(text=text):
                self.assert_worth("written", [worth], text)

    def test_written_of_four_hundred_signs_and_one_more(self):
        self.assert_worth("written", ["a" * 398], '"' + "a" * 398 + '"')
        self.assert_fault("written", ["a" * 399], "too long")
        self.assert_worth("written", [Pair("a" * 389, None)], '("' + "a" * 389 + '" . none)')
        self.assert_fault("written", [Pair("a" * 390, None)], "too long")
        self.assert_fault("written", [pairs(400)], "too long")


class Kinds(Ops):
    def test_kind(self):
        for kind, worths in WORTHS.items():
            for worth in worths:
                with self.subTest(kind=kind, worth=worth):
                    self.assert_worth("kind", [worth], kind)


class Same(Ops):
    def test_just_where_they_are_the_same_of_one_kind(self):
        leaves = [0, 1, -1, "", "1", "a", "yes", "none", True, False, None, CELL, Cell()]
        for at, one in enumerate(leaves):
            for other_at, two in enumerate(leaves):
                with self.subTest(one=one, two=two):
                    self.assert_worth("same", [one, two], at == other_at)
                    self.assert_worth("same", [Pair(one, 5), Pair(two, 5)], at == other_at)
                    self.assert_worth("same", [Pair(5, one), Pair(5, two)], at == other_at)

    def test_great_numbers_and_long_texts(self):
        self.assert_worth("same", [10 ** 59 + 1, 10 ** 59 + 1], True)
        self.assert_worth("same", [10 ** 59 + 1, 10 ** 59 + 2], False)
        self.assert_worth("same", ["a" * 399 + "b", "a" * 399 + "b"], True)
        self.assert_worth("same", ["a" * 399 + "b", "a" * 399 + "c"], False)

    def test_funs_points_and_parts_are_never_the_same(self):
        for one in (FUN, POINT, PART):
            for two in all_worths():
                with self.subTest(one=one, two=two):
                    self.assert_worth("same", [one, two], False)
                    self.assert_worth("same", [two, one], False)
                    self.assert_worth("same", [Pair(one, 1), Pair(two, 1)], False)

    def test_the_very_same_pair_with_a_fun_in_it(self):
        for held in (FUN, POINT, PART):
            pair = Pair(Pair(1, held), 2)
            self.assert_worth("same", [pair, pair], False)
        pair = Pair(CELL, 2)
        self.assert_worth("same", [pair, pair], True)

    def test_pairs_and_others(self):
        for other in all_but("pair"):
            with self.subTest(other=other):
                self.assert_worth("same", [PAIR, other], False)
                self.assert_worth("same", [other, PAIR], False)
        self.assert_worth("same", [pairs(400), pairs(400)], True)
        self.assert_worth("same", [pairs(400), pairs(399)], False)


class PairWords(Ops):
    def test_pair_first_and_rest(self):
        for one in all_worths():
            for two in all_worths():
                word, pair = op_worth("pair", [one, two])
                self.assertEqual(word, "worth")
                self.assertIs(type(pair), Pair)
                self.assertIs(pair.first, one)
                self.assertIs(pair.rest, two)
                for part, told in (("first", one), ("rest", two)):
                    word, worth = op_worth(part, [pair])
                    self.assertEqual(word, "worth")
                    self.assertIs(worth, told)

    def test_no_pair(self):
        for other in all_but("pair"):
            with self.subTest(other=other):
                self.assert_fault("first", [other], "no pair")
                self.assert_fault("rest", [other], "no pair")

    def test_four_hundred_pairs_and_one_more(self):
        self.assertEqual(op_worth("pair", [1, pairs(399)])[0], "worth")
        self.assert_fault("pair", [1, pairs(400)], "too great")
        self.assertEqual(op_worth("pair", [pairs(399), 1])[0], "worth")
        self.assert_fault("pair", [pairs(400), 1], "too great")
        self.assertEqual(op_worth("pair", [pairs(199), pairs(200)])[0], "worth")
        self.assert_fault("pair", [pairs(200), pairs(200)], "too great")

    def test_pairs_count_as_often_as_they_stand_there(self):
        shared = pairs(199)
        self.assertEqual(op_worth("pair", [Pair(shared, 1), pairs(199)])[0], "worth")
        self.assertEqual(op_worth("pair", [shared, shared])[0], "worth")
        shared = pairs(200)
        self.assert_fault("pair", [shared, shared], "too great")
        worth = None
        for _ in range(8):
            worth = op_worth("pair", [worth, worth])[1]
        self.assert_fault("pair", [worth, worth], "too great")
        self.assertEqual(op_worth("pair", [worth, pairs(144)])[0], "worth")
        self.assert_fault("pair", [worth, pairs(145)], "too great")

    def test_what_was_told_is_handed_in_again_until_it_is_too_great(self):
        for place in (0, 1):
            worth = None
            for number in range(400):
                worths = [number, number]
                worths[place] = worth
                word, worth = op_worth("pair", worths)
                self.assertEqual(word, "worth")
            self.assert_fault("pair", [worth, 1], "too great")
            self.assert_worth("same", [worth, worth], True)
            self.assert_fault("written", [worth], "too long")


if __name__ == "__main__":
    unittest.main()
