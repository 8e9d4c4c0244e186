"""Promise 28: check, and the form of lines."""

import random
import unittest

from windpoints.errors import NoText
from windpoints.lines import all_lined, check, lined, rest_of, rests_of

SIGNS = [chr(number) for number in range(32, 127)]


def plain_check(line):
    total = 0
    for at in range(len(line)):
        total = (total + (at + 1) * ord(line[at])) % 999983
    return total


class Check(unittest.TestCase):
    def test_the_documents_own(self):
        self.assertEqual(check("1 4 flow"), 3284)

    def test_the_empty_text(self):
        self.assertEqual(check(""), 0)

    def test_texts_of_one_sign(self):
        for sign in SIGNS:
            self.assertEqual(check(sign), ord(sign))

    def test_places_from_one(self):
        self.assertEqual(check("aa"), 97 * 3)
        self.assertEqual(check("ab"), 97 + 2 * 98)
        self.assertEqual(check("   "), 32 * 6)

    def test_by_rest_of_999983(self):
        self.assertEqual(check("~" * 125), 126 * 125 * 126 // 2)
        self.assertEqual(check("~" * 126), 126 * 126 * 127 // 2 - 999983)
        self.assertEqual(check("~" * 5000), 126 * 5000 * 5001 // 2 % 999983)

    def test_long_ones(self):
        chance = random.Random(1)
        for many in (10, 1000, 4000):
            line = "".join(chance.choice(SIGNS) for _ in range(many))
            self.assertEqual(check(line), plain_check(line))
            self.assertEqual(check(line=line), plain_check(line))
            self.assertIs(type(check(line)), int)

    def test_another_sign(self):
        for line in ("1 4 flow", "a", "~ ~", "x" * 500):
            for at in range(0, len(line), 1 + len(line) // 20):
                for sign in SIGNS:
                    if sign != line[at]:
                        self.assertNotEqual(check(line[:at] + sign + line[at + 1:]), check(line))

    def test_neighbours_that_change_places(self):
        chance = random.Random(2)
        for line in ("1 4 flow", "ab", "~ ", "".join(chance.choice(SIGNS) for _ in range(3000))):
            for at in range(len(line) - 1):
                if line[at] != line[at + 1]:
                    other = line[:at] + line[at + 1] + line[at] + line[at + 2:]
                    self.assertNotEqual(check(other), check(line))


class Lines(unittest.TestCase):
    def test_a_line(self):
        self.assertEqual(lined(1, "flow"), "1 4 flow 3284")
        self.assertEqual(lined(0, ""), f"0 0  {check('0 0 ')}")
        for place, rest in ((0, ""), (1, "flow"), (12, " "), (7, "  a  b "), (3, "4 4"), (99, '"(;)" \\ ~')):
            self.assertEqual(rest_of(place, lined(place, rest)), rest)

    def test_lines_of_another_form(self):
        for line in (
            "", " ", "  ", "   ", "1", "1 4", "1 4 flow", "1 4 flow ", "1 4 flow 3285", "1 4 flow 03284", "1 4 flow 3284 ",
            " 1 4 flow 3284", "01 4 flow 3284", "1 04 flow 3284", "2 4 flow 3284", "1 3 flow 3284", "1 4 flow  3284",
            "1 4  flow 3284", "1  4 flow 3284", "1 4 flow +3284", "1 4 flow -3284", "1 4 flow 3_284", "-1 4 flow 3284",
            "1 " + "9" * 5000 + " flow 3284", "1 4 flow " + "9" * 5000, "9" * 5000 + " 4 flow 3284",
        ):
            with self.subTest(line=line[:20]):
                with self.assertRaises(NoText) as caught:
                    rest_of(1, line)
                self.assertEqual(vars(caught.exception), {"at": 1})

    def test_several(self):
        for rests in ([], [""], ["a"], ["a", "", " b "], [str(number) for number in range(30)]):
            text = all_lined(rests)
            self.assertEqual(len(text.split("\n")), 1 + len(rests))
            self.assertEqual(rests_of(text), rests)

    def test_a_first_line_that_tells_no_number(self):
        for rest in ("", "x", "-1", "1x", " 1", "1 ", "9" * 5000):
            with self.assertRaises(NoText) as caught:
                rests_of(lined(0, rest) + "\n" + lined(1, "a"))
            self.assertEqual(vars(caught.exception), {"at": 0})

    def test_too_few_and_too_many(self):
        text = all_lined(["a", "b", "c"])
        lines = text.split("\n")
        for many in range(1, 4):
            self.assert_at(many, "\n".join(lines[:many]))
            self.assert_at(many, "\n".join(lines[:many]) + "\n")
        self.assert_at(4, text + "\n")
        self.assert_at(4, text + "\n" + lined(4, "d"))
        self.assert_at(4, text + "\nx\ny")
        self.assert_at(0, "")

    def assert_at(self, at, text):
        with self.assertRaises(NoText) as caught:
            rests_of(text)
        self.assertEqual(vars(caught.exception), {"at": at})


if __name__ == "__main__":
    unittest.main()
