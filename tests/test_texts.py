"""Promise 30: shown_term and read_term."""

import random
import unittest

from tests.plain_texts import first_bad
from tests.random_terms import random_term
from tests.samples import MAKERS, deep, good, kinds_with_parts, made
from windpoints.errors import NoText
from windpoints.texts import read_term, shown_term
from windpoints.worths import OPS

# Of each kind a term and its text.
TEXTS = [
    (("num", 5), "5"), (("num", 0), "0"), (("num", -12), "-12"), (("num", 10 ** 29), "1" + "0" * 29),
    (("num", -(10 ** 30) + 1), "-" + "9" * 30), (("text", ""), '""'), (("text", "a b"), '"a b"'),
    (("text", "(say 1) ; ' yes"), '"(say 1) ; \' yes"'), (("yes",), "yes"), (("no",), "no"), (("none",), "none"),
    (("name", "x"), "x"), (("name", "a23456789012"), "a23456789012"), (("name", "say"), "say"), (("name", "yesx"), "yesx"),
    (("fun", (), ("num", 1)), "(fun () 1)"), (("fun", ("x", "y"), ("name", "x")), "(fun (x y) x)"),
    (("fun", ("a", "b", "c", "d", "e", "f"), ("num", 1)), "(fun (a b c d e f) 1)"),
    (("rec", "f", (), ("num", 1)), "(rec f () 1)"), (("rec", "f", ("x",), ("name", "f")), "(rec f (x) f)"),
    (("call", ("name", "f"), ()), "(call f)"), (("call", ("name", "f"), (("num", 1), ("num", 2))), "(call f 1 2)"),
    (("call", ("name", "f"), (("num", 1),) * 6), "(call f 1 1 1 1 1 1)"),
    (("let", "x", ("num", 1), ("name", "x")), "(let x 1 x)"), (("if", ("yes",), ("num", 1), ("num", 2)), "(if yes 1 2)"),
    (("do", (("num", 1),)), "(do 1)"), (("do", (("num", 1),) * 12), "(do" + " 1" * 12 + ")"),
    (("cell", ("num", 1)), "(cell 1)"), (("get", ("num", 1)), "(get 1)"), (("set", ("num", 1), ("num", 2)), "(set 1 2)"),
    (("say", ("num", 1)), "(say 1)"), (("fault", ("num", 1)), "(fault 1)"),
    (("guard", ("num", 1), "x", ("num", 2)), "(guard 1 x 2)"),
    (("wind", ("num", 1), ("num", 2), ("num", 3)), "(wind 1 2 3)"), (("catch", "k", ("num", 1)), "(catch k 1)"),
    (("go", ("num", 1), ("num", 2)), "(go 1 2)"), (("mark", "t", ("num", 1)), "(mark t 1)"),
    (("take", "t", "x", ("num", 1)), "(take t x 1)"), (("use", ("num", 1), ("num", 2)), "(use 1 2)"),
    (("mark", "yes", ("num", 1)), "(mark yes 1)"), (("mark", "none", ("num", 1)), "(mark none 1)"),
    (("take", "no", "x", ("num", 1)), "(take no x 1)"), (("mark", "mark", ("name", "mark")), "(mark mark mark)"),
    (("let", "let", ("name", "let"), ("name", "in")), "(let let let in)"),
    (("fun", ("fun", "rec"), ("name", "do")), "(fun (fun rec) do)"), (("take", "t", "t", ("name", "t")), "(take t t t)"),
]
TEXTS += [(("op", word, (("num", 1), ("num", 2))[:many]), f"({word} " + " ".join("12"[:many]) + ")")
          for word, many in OPS.items()]

# Wrong texts, and where.
WRONG = [
    ("", 0), (" ", 1), (" \n ", 3), ("(fun (yes) 1)", 9), ("(fun (x x) 1)", 9), ("-0", 1), ("1-2", 1), ("(do)", 3),
    ("(say", 4), ("-", 1), ("--1", 1), ("- 1", 1), ("-a", 1), ("00", 1), ("01", 1), ("0x", 1), ("1x", 1), ("1.5", 1),
    ("+1", 0), ("X", 0), ("xY", 1), ("x_y", 1), ("x-1", 1), ("x y", 2), ("1 2", 2), ("(", 1), (")", 0), ("()", 1),
    ("( )", 2), ("((say 1))", 1), ("(1)", 1), ('("a")', 1), ("(yes)", 1), ("(x 1)", 1), ("(none)", 1), ("(name x)", 1),
    ("(num 5)", 1), ("(text 5)", 2), ("(op plus 1 2)", 1), ("(sax 1)", 3), ("(sa 1)", 3), ("(sa)", 3), ("(sayx 1)", 4),
    ("(say1)", 4), ("(say-1)", 4), ("(say)", 4), ("(say 1 2)", 7), ("(say 1", 6), ("(say 1))", 7), ("(say 1) 2", 8),
    ("(say 1)(say 2)", 7), ("(if 1 2)", 7), ("(if 1 2 3 4)", 10), ("(plus 1)", 7), ("(plus 1 2 3)", 10), ("(kind 1 2)", 8),
    ("(plus)", 5), ("(call)", 5), ("(call f 1 2 3 4 5 6 7)", 20), ("(do" + " 1" * 12 + " 1)", 28),
    ("(do" + " 1" * 12 + "(", 27), ("(fun x 1)", 5), ("(fun 1 1)", 5), ("(fun () )", 8), ("(fun ())", 7),
    ("(fun () 1 2)", 10), ("(fun (x) (y) 1)", 10), ("(fun (1) 1)", 6), ('(fun ("a") 1)', 6), ("(fun ((x)) 1)", 6),
    ("(fun (a b c d e f g) 1)", 18), ("(fun (a b c d e f  ", 19), ("(fun (a,b) 1)", 7), ("(rec (x) 1)", 5),
    ("(rec f x 1)", 7), ("(rec f (f) 1)", 9), ("(rec f (x f) 1)", 11), ("(rec f (x x) 1)", 11), ("(rec yes () 1)", 8),
    ("(rec f (no) 1)", 10), ("(rec none(x) 1)", 9), ("(let 1 2 3)", 5), ("(let x 1)", 8), ("(let (x) 1 2)", 5),
    ("(let yes 1 2)", 8), ("(let no", 7), ("(catch none 1)", 11), ("(guard 1 no 2)", 11), ("(guard x 1 2)", 9),
    ("(take t yes 1)", 11), ("(take yes yes 1)", 13), ("(take t 1)", 8), ("(mark 1 2)", 6), ("(mark (t) 2)", 6),
    ("(mark t)", 7), ('"', 1), ('"a', 2), ('"a\nb"', 2), ('"a\\"', 2), ('"a""b"', 3), ('"a"b', 3), ('"a"1', 3), ('"a"(', 3),
    ("(joined \"a\" 'b')", 12), ("(say\t1)", 4), ("; x", 0), ("(say 1);", 7), ("x)", 1), ("yes)", 3), ("yes no", 4),
    ("(fun (abcdefghijkl abcdefghijkl) 1)", 30), ("(rec abcdefghijkl (abcdefghijkl) 1)", 30),
    ("(fun (abcdefghijkl abcdefghijk) 1", 33), ("(fun", 4), ("(fun (", 6), ("(fun (x", 7), ("(fun (x)", 8), ("(le", 3),
    ("(less 1 2", 9), ("(lest 1 2)", 4), ("(let", 4), ("(letx 1 2)", 4), ("(rest 1", 7), ("(recx", 4), ("(go 1)", 5),
    ("(plus 1-2)", 7), ("(plus x-2)", 7), ("(plus 1x)", 7), ("(plus 0 00)", 9), ("(plus -1 -0)", 10), ("(pair \"a\"b-", 10),
]


class Shown(unittest.TestCase):
    def test_each_kind(self):
        for whole, text in TEXTS:
            with self.subTest(text=text):
                self.assertEqual(shown_term(whole), text)
        self.assertEqual({whole[0] for whole, text in TEXTS}, set(MAKERS))

    def test_each_kind_within_each_kind(self):
        for outer in kinds_with_parts():
            for inner in MAKERS:
                whole = made(outer, [good(inner)] * MAKERS[outer][0])
                plain = made(outer, [("name", "hole")] * MAKERS[outer][0])
                self.assertEqual(shown_term(whole), shown_term(plain).replace("hole", shown_term(good(inner))))

    def test_names_that_are_yes_no_or_none(self):
        for name in ("yes", "no", "none"):
            for whole in (
                ("name", name), ("fun", (name,), ("num", 1)), ("fun", ("x", name), ("num", 1)),
                ("rec", name, (), ("num", 1)), ("rec", "f", ("x", name), ("num", 1)), ("let", name, ("num", 1), ("num", 2)),
                ("guard", ("num", 1), name, ("num", 2)), ("catch", name, ("num", 1)), ("take", "t", name, ("num", 1)),
                ("take", name, name, ("num", 1)), ("do", (("num", 1), ("say", ("name", name)))),
            ):
                with self.subTest(whole=whole):
                    with self.assertRaises(NoText) as caught:
                        shown_term(whole)
                    self.assertEqual(vars(caught.exception), {"at": 0})

    def test_asked_by_name(self):
        self.assertEqual(shown_term(term=("num", 1)), "1")
        self.assertEqual(read_term(text="1"), ("num", 1))


def signs_put_between(text, put):
    """A text with a text put at each place where blanks may stand, and must where a word and the like meet."""
    told = put
    in_text = False
    for at, sign in enumerate(text):
        if sign == '"':
            in_text = not in_text
        if in_text or sign == '"':
            told += (put if in_text and sign == '"' else "") + sign + (put if sign == '"' and not in_text else "")
        elif sign in "()":
            told += put + sign + put
        elif sign == " ":
            told += " " + put
        else:
            told += sign
    return told + put


class Read(unittest.TestCase):
    def assert_at(self, text, at):
        with self.assertRaises(NoText) as caught:
            read_term(text)
        self.assertEqual(vars(caught.exception), {"at": at})

    def test_each_kind(self):
        for whole, text in TEXTS:
            with self.subTest(text=text):
                self.assertEqual(read_term(text), whole)

    def test_blanks_and_line_ends(self):
        for whole, text in TEXTS + [(good(kind), shown_term(good(kind))) for kind in MAKERS]:
            for put in ("", " ", "\n", "   ", " \n\n "):
                with self.subTest(text=text, put=put):
                    self.assertEqual(read_term(signs_put_between(text, put)), whole)

    def test_line_ends_for_blanks(self):
        self.assertEqual(read_term("(let\nx\n1\nx)"), ("let", "x", ("num", 1), ("name", "x")))

    def test_no_blank_where_none_is_needed(self):
        for text, plain in (
            ("(say(say 1))", "(say (say 1))"), ('(say"a")', '(say "a")'), ("(fun(x)x)", "(fun (x) x)"),
            ("(fun()1)", "(fun () 1)"), ("(rec f(x)f)", "(rec f (x) f)"), ('(joined"a""b")', '(joined "a" "b")'),
            ("(let x(say 1)x)", "(let x (say 1) x)"), ("(plus(plus 1 2)3)", "(plus (plus 1 2) 3)"),
            ('(plus"a"1)', '(plus "a" 1)'), ('(plus 1"a")', '(plus 1 "a")'), ('(let x"a"x)', '(let x "a" x)'),
            ("(plus 1(plus 2 3))", "(plus 1 (plus 2 3))"), ("(if yes(say 1)-1)", "(if yes (say 1) -1)"),
            ('(do"a"-1"b"x)', '(do "a" -1 "b" x)'), ("(mark t(say 1))", "(mark t (say 1))"),
            ("(call f(fun()1)2)", "(call f (fun () 1) 2)"),
        ):
            with self.subTest(text=text):
                self.assertEqual(shown_term(read_term(text)), plain)

    def test_wrong_texts(self):
        for text, at in WRONG:
            with self.subTest(text=text):
                self.assert_at(text, at)
                self.assertEqual(first_bad(text), at)

    def test_cut_off(self):
        for whole, text in TEXTS:
            if text[0] == "(":
                for at in range(len(text)):
                    self.assert_at(text[:at], at)

    def test_signs_put_in_left_out_and_exchanged(self):
        chance = random.Random(7)
        signs = '()" \n-019axyesnodb"\\%;~A'
        texts = [text for whole, text in TEXTS] + [
            "(let x (fun (x y) (plus x -1)) (call x \"a\" yes))", "(rec f (x yes1) (guard (take no k 10) no1 none))",
            "(do (say 1) (mark none (use (catch k (go k 0)) input)))"]
        many = 0
        for text in texts:
            for at in range(len(text) + 1):
                put_in = text[:at] + chance.choice(signs) + text[at:]
                left_out = text[:at] + text[at + 1:]
                exchanged = text[:at] + chance.choice(signs) + text[at + 1:]
                for spoilt in (put_in, left_out, exchanged):
                    bad = first_bad(spoilt)
                    with self.subTest(text=spoilt):
                        if bad is None:
                            read_term(spoilt)
                        else:
                            many += 1
                            self.assert_at(spoilt, bad)
        self.assertGreater(many, 1000)

    def test_signs_by_chance(self):
        chance = random.Random(8)
        tokens = ["(", ")", " ", "(", ")", " ", "1", "0", "-", "x", "yes", '"a"', '"', "fun", "(fun (", "(rec f (", "say",
                  "(do ", "(call ", "(plus ", "let", "(mark ", "no", "\n", "(if "]
        for number in range(3000):
            text = "".join(chance.choice(tokens) for _ in range(chance.randint(1, 9)))
            bad = first_bad(text)
            with self.subTest(text=text):
                if bad is None:
                    read_term(text)
                else:
                    self.assert_at(text, bad)

    def test_terms_made_by_chance(self):
        for seed in range(200):
            whole = random_term(seed, 3 + seed % 4)
            text = shown_term(whole)
            self.assertEqual(read_term(text), whole)
            self.assertEqual(shown_term(read_term(text)), text)

    def test_deep_and_long_ones(self):
        whole = deep(300, ("name", "input"))
        self.assertEqual(read_term(shown_term(whole)), whole)
        text = "(do " * 4990 + "1" + ")" * 4990
        self.assertEqual(shown_term(read_term(text)), text)
        self.assert_at(text[:-1], len(text) - 1)
        self.assert_at("(say " * 4000, 20000)

    def test_it_is_read_by_its_signs_alone(self):
        # Names need not be bound.
        self.assertEqual(read_term("(call f x)"), ("call", ("name", "f"), (("name", "x"),)))


if __name__ == "__main__":
    unittest.main()
