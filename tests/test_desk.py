"""Promise 31: a desk, its rows and answers."""

import unittest

from tests.samples import deep
from windpoints.desk import Desk
from windpoints.errors import NoName, NoRow, NoText
from windpoints.plain import MOST
from windpoints.texts import shown_term

LOOP = "(call (rec f () (call f)))"


class Desks(unittest.TestCase):
    def setUp(self):
        self.desk = Desk()

    def say(self, *rows):
        """Check rows, each told as a row and its answer."""
        for row, answer in rows:
            with self.subTest(row=row):
                told = self.desk.say(row)
                self.assertIs(type(told), str)
                self.assertEqual(told, answer)

    def refuse(self, error, row, **fields):
        """Check that a row is refused, and that nothing that can be asked is changed by it."""
        with self.subTest(row=row):
            ahead = self.asked()
            with self.assertRaises(error) as caught:
                self.desk.say(row)
            self.assertIs(type(caught.exception), error)
            self.assertEqual(vars(caught.exception), fields)
            self.assertEqual(self.asked(), ahead)

    def asked(self):
        told = [self.desk.say(row) for row in ("said", "winds", "names")]
        names = [] if told[2] == "-" else told[2].split(" ")
        told.extend(self.desk.say("show " + name) for name in names)
        try:
            told.append(self.desk.say("end"))
        except NoRow:
            told.append(None)
        return told


class Rows(Desks):
    def test_at_first(self):
        self.say(("names", "-"), ("said", "-"), ("winds", "-"))
        self.refuse(NoRow, "end", at="end")
        self.refuse(NoRow, "go 1", at="go 1")

    def test_keep(self):
        self.say(
            ("keep x 5", "5"), ("show x", "5"), ("keep y (plus x 1)", "6"), ("names", "x y"), ("keep x \"a b\"", '"a b"'),
            ("show x", '"a b"'), ("show y", "6"), ("keep a (pair x (pair yes none))", '("a b" . (yes . none))'),
            ("names", "a x y"), ("show a", '("a b" . (yes . none))'))

    def test_keep_of_worths_of_all_kinds(self):
        self.say(
            ("keep f (fun (n) (plus n 1))", "fun"), ("do (call f 4)", "5"), ("keep c (cell 1)", "cell"),
            ("do (set c (plus (get c) 1))", "none"), ("do (get c)", "2"), ("show c", "cell"), ("keep k (catch k k)", "point"),
            ("keep p (mark t (pair 1 (take t k k)))", "part"), ("show p", "part"), ("do (use p 2)", "(1 . 2)"),
            ("do (use p 3)", "(1 . 3)"), ("names", "c f k p"))

    def test_names_are_let_in_terms_where_they_are_kept(self):
        self.refuse(NoName, "do x", at=(), name="x")
        self.refuse(NoName, "do input", at=(), name="input")
        self.say(("keep input 7", "7"), ("do (plus input 1)", "8"), ("keep x 1", "1"), ("do (plus x input)", "8"),
                 ("forget input", "ok"))
        self.refuse(NoName, "do (plus x input)", at=(1,), name="input")

    def test_a_name_kept_in_its_own_row(self):
        self.refuse(NoName, "keep x (plus x 1)", at=(0,), name="x")
        self.say(("keep x 1", "1"), ("keep x (plus x 1)", "2"), ("keep x (plus x 1)", "3"), ("show x", "3"))

    def test_do(self):
        self.say(("do 5", "5"), ("do (pair 1 (fun () 1))", "(1 . fun)"), ("names", "-"), ("do  \n 5 \n", "5"),
                 ('do "a"', '"a"'), ("do (say 1)", "none"), ("said", "1"))

    def test_show_and_forget(self):
        self.say(("keep x 1", "1"), ("keep y 2", "2"), ("forget x", "ok"), ("names", "y"))
        self.refuse(NoName, "show x", at=(), name="x")
        self.refuse(NoName, "forget x", at=(), name="x")
        self.say(("keep x 3", "3"), ("show x", "3"), ("forget y", "ok"), ("forget x", "ok"), ("names", "-"))

    def test_names_rise(self):
        self.say(("keep b 1", "1"), ("keep a2 1", "1"), ("keep a10 1", "1"), ("keep a 1", "1"), ("names", "a a10 a2 b"))

    def test_names_of_twelve_signs_and_words(self):
        self.say(("keep abcdefghij12 1", "1"), ("show abcdefghij12", "1"), ("keep keep 2", "2"), ("show keep", "2"),
                 ("keep do (plus keep 1)", "3"), ("do do", "3"), ("names", "abcdefghij12 do keep"), ("forget do", "ok"))

    def test_faults_keep_no_name(self):
        self.say(("keep x 1", "1"), ("keep x (fault (pair 1 2))", "fault (1 . 2)"), ("show x", "1"),
                 ("keep y (plus 1 none)", 'fault "no number"'), ("names", "x"), ("do (fault 5)", "fault 5"),
                 ("do (guard (fault 5) z (plus z 1))", "6"))

    def test_what_a_fault_ended_stays_done(self):
        self.say(("keep c (cell 1)", "cell"), ("do (do (set c 2) (say 9) (wind 0 (fault 3) 0))", "fault 3"), ("said", "9"),
                 ("winds", "in 1\nout 1"), ("do (get c)", "2"))

    def test_steps_keep_no_name(self):
        self.say(("keep c (cell 0)", "cell"), (f"keep x (do (set c 1) (say 5) {LOOP})", "steps"), ("names", "c"),
                 ("said", "5"), ("do (get c)", "1"))

    def test_just_as_many_steps(self):
        # Each do takes one step, and the number one more.
        def row(steps):
            return "(do " * (steps - 1) + "1" + ")" * (steps - 1)

        self.say(("do " + row(MOST), "1"), ("do " + row(MOST + 1), "steps"), ("keep x " + row(MOST), "1"),
                 ("keep y " + row(MOST + 1), "steps"), ("names", "x"))


class Runs(Desks):
    def test_begun_gone_on_and_ended(self):
        self.say(
            ("begin (do (say 1) (say 2) 9)", "ok"), ("said", "-"), ("winds", "-"), ("end", "more"), ("go 0", "no"),
            ("go 3", "no"), ("said", "1"), ("end", "more"), ("go 2", "no"), ("said", "1\n2"), ("go 1", "yes"), ("end", "9"),
            ("go 5", "yes"), ("go 0", "yes"), ("said", "1\n2"), ("end", "9"), ("names", "-"))

    def test_a_fault(self):
        self.say(("begin (do (say 1) (fault 7))", "ok"), ("go 99", "yes"), ("end", "fault 7"), ("said", "1"), ("names", "-"))

    def test_as_many_steps_as_it_is_told(self):
        self.say((f"begin {LOOP}", "ok"), ("go 20000", "no"), ("go 5000", "no"), ("end", "more"))

    def test_another_one(self):
        self.say(("begin (do (say 1) 2)", "ok"), ("go 3", "no"), ("begin (say 5)", "ok"), ("said", "-"), ("end", "more"),
                 ("go 2", "yes"), ("said", "5"), ("end", "none"))
        self.refuse(NoText, "begin (", at=1)
        self.refuse(NoName, "begin x", at=(), name="x")
        self.say(("end", "none"))

    def test_rows_between(self):
        self.say(
            ("keep x 1", "1"), ("begin (do (say x) (say (plus x 1)) x)", "ok"), ("go 4", "no"), ("said", "1"),
            # The run has the names as they were when it was begun.
            ("keep x 50", "50"), ("said", "-"), ("do (say 7)", "none"), ("said", "7"), ("forget x", "ok"), ("said", "7"),
            ("go 0", "no"), ("said", "1"), ("go 99", "yes"), ("said", "1\n2"), ("end", "1"), ("names", "-"))

    def test_cells_are_shared_with_rows(self):
        self.say(("keep c (cell 1)", "cell"), ("begin (do (set c 2) (say (get c)) (get c))", "ok"), ("go 4", "no"),
                 ("do (get c)", "2"), ("do (set c 7)", "none"), ("go 99", "yes"), ("said", "7"), ("end", "7"))

    def test_ids_go_on(self):
        self.say(
            ("do (wind 0 (wind 0 1 2) 3)", "1"), ("winds", "in 1\nin 2\nout 2\nout 1"), ("begin (do (wind 0 (wind 0 1 2) 3) 5)", "ok"),
            ("winds", "-"), ("go 3", "no"), ("winds", "in 3"), ("do (wind 0 1 2)", "1"), ("winds", "in 4\nout 4"),
            ("go 0", "no"), ("winds", "in 3"), ("go 99", "yes"), ("winds", "in 3\nin 5\nout 5\nout 3"),
            ("keep x (wind 0 1 2)", "1"), ("winds", "in 6\nout 6"))

    def test_ids_go_on_behind_faults_and_steps(self):
        self.say(("do (wind 0 (fault 1) 2)", "fault 1"), ("winds", "in 1\nout 1"), (f"do (wind 0 {LOOP} 2)", "steps"),
                 ("winds", "in 2"), ("do (wind 0 1 2)", "1"), ("winds", "in 3\nout 3"))


class Said(Desks):
    def test_of_each_kind_of_row(self):
        self.say(
            ("do (do (say 1) (say \"a b\") 2)", "2"), ("said", '1\n"a b"'), ("keep x (say (pair 1 2))", "none"),
            ("said", "(1 . 2)"), ("do 5", "5"), ("said", "-"), ("do (say 3)", "none"), ("show x", "none"), ("names", "x"),
            ("last 5", "-"), ("escapes 5", "-"), ("said", "3"), ("forget x", "ok"), ("said", "3"), ("winds", "-"),
            ("begin (say 4)", "ok"), ("said", "-"), ("go 2", "yes"), ("said", "4"), ("end", "none"), ("said", "4"))

    def test_a_refused_row_leaves_it(self):
        self.say(("do (do (say 1) (wind 0 1 2))", "1"))
        self.refuse(NoText, "do (say", at=4)
        self.refuse(NoName, "do (say x)", at=(0,), name="x")
        self.refuse(NoRow, "do", at="do")
        self.say(("said", "1"), ("winds", "in 1\nout 1"))


class Points(Desks):
    def test_of_a_keep(self):
        self.say(
            ("keep p (catch k k)", "point"), ("do (go p 7)", "7"), ("show p", "7"), ("names", "p"))

    def test_gone_to_again_and_again(self):
        self.say(
            ("keep c (cell none)", "cell"), ("keep x (plus 1 (catch k (do (set c k) 1)))", "2"), ("do (go (get c) 10)", "11"),
            ("show x", "11"), ("keep y (go (get c) 20)", "21"), ("names", "c x"), ("show x", "21"),
            ("do (pair 1 (go (get c) 30))", "31"), ("show x", "31"), ("forget x", "ok"), ("do (go (get c) 40)", "41"),
            ("show x", "41"))

    def test_of_a_do(self):
        self.say(
            ("keep c (cell none)", "cell"), ("do (plus 1 (catch k (do (set c k) 1)))", "2"), ("do (go (get c) 10)", "11"),
            # Neither the row that goes to it keeps a name.
            ("keep y (go (get c) 20)", "21"), ("names", "c"), ("keep y 5", "5"), ("keep y (go (get c) 20)", "21"),
            ("show y", "5"))

    def test_of_a_run(self):
        self.say(
            ("keep c (cell none)", "cell"), ("begin (do (say 1) (plus 1 (catch k (do (set c k) 5))) 9)", "ok"),
            ("go 10", "no"), ("end", "more"),
            # Gone to by a row it ends as its row would have, and leaves the run as it is.
            ("do (do (say 2) (go (get c) 10))", "9"), ("said", "2"), ("end", "more"), ("keep y (go (get c) 10)", "9"),
            ("names", "c"), ("go 0", "no"), ("said", "1"), ("go 99", "yes"), ("end", "9"), ("do (go (get c) 3)", "9"),
            ("end", "9"))

    def test_gone_to_by_a_run(self):
        self.say(
            ("keep c (cell none)", "cell"), ("keep x (plus 1 (catch k (do (set c k) 1)))", "2"),
            ("begin (do (say 1) (go (get c) 100))", "ok"), ("show x", "2"), ("go 4", "no"), ("show x", "2"),
            ("go 4", "yes"), ("show x", "101"), ("end", "101"), ("said", "1"),
            # It was kept at that go, and at no other one.
            ("keep x 0", "0"), ("go 5", "yes"), ("show x", "0"), ("forget x", "ok"), ("go 0", "yes"), ("names", "c"),
            ("end", "101"))

    def test_a_run_that_goes_to_a_do_or_to_another_run(self):
        self.say(
            ("keep c (cell none)", "cell"), ("do (plus 1 (catch k (do (set c k) 1)))", "2"), ("begin (go (get c) 5)", "ok"),
            ("go 99", "yes"), ("end", "6"), ("begin (plus 2 (catch k (do (set c k) 1)))", "ok"), ("go 99", "yes"),
            ("end", "3"), ("begin (go (get c) 5)", "ok"), ("go 99", "yes"), ("end", "7"), ("names", "c"))

    def test_a_keep_that_is_gone_to_in_its_own_row(self):
        self.say(("keep x (plus 1 (catch k (go k 5)))", "6"), ("show x", "6"),
                 ("begin (plus 1 (catch k (go k 5)))", "ok"), ("go 99", "yes"), ("end", "6"))

    def test_what_is_around_a_point_is_there_again(self):
        self.say(
            ("keep c (cell none)", "cell"),
            ("keep x (guard (wind (say 1) (plus 1 (catch k (do (set c k) 1))) (say 2)) z (pair z z))", "2"),
            ("winds", "in 1\nout 1"),
            ("do (wind (say 3) (go (get c) 10) (say 4))", "11"), ("said", "3\n4\n1\n2"), ("winds", "in 2\nout 2\nin 1\nout 1"),
            ("show x", "11"),
            # A fault behind it meets that row's guard.
            ("do (go (get c) none)", '("no number" . "no number")'), ("show x", '("no number" . "no number")'),
            ("winds", "in 1\nout 1"))

    def test_a_fault_behind_a_point(self):
        self.say(("keep c (cell none)", "cell"), ("keep x (plus 1 (catch k (do (set c k) 1)))", "2"),
                 ("do (guard (go (get c) none) z 5)", 'fault "no number"'), ("show x", "2"))

    def test_steps_behind_a_point(self):
        self.say(("keep c (cell none)", "cell"), (f"keep x (if (catch k (do (set c k) no)) {LOOP} 5)", "5"),
                 ("do (go (get c) yes)", "steps"), ("show x", "5"))

    def test_the_names_of_a_points_row(self):
        self.say(("keep c (cell none)", "cell"), ("keep n 1", "1"), ("keep x (plus (catch k (do (set c k) 1)) n)", "2"),
                 ("keep n 100", "100"), ("do (go (get c) 5)", "6"))

    def test_a_point_caught_while_a_fault_leaves(self):
        self.say(("keep c (cell none)", "cell"), ("keep x (wind 0 (fault 7) (catch k (set c k)))", "fault 7"),
                 ("do (go (get c) 0)", "fault 7"), ("names", "c"))

    def test_a_point_of_a_row_that_ended_by_steps(self):
        self.say(("keep c (cell none)", "cell"), (f"keep x (plus 1 (catch k (do (set c k) {LOOP})))", "steps"),
                 ("do (go (get c) 5)", "6"), ("show x", "6"))


class Parts(Desks):
    def test_a_row_that_uses_one_ends_as_itself(self):
        self.say(
            ("keep p (mark t (plus 1 (take t k k)))", "part"), ("do (use p 5)", "6"), ("show p", "part"),
            ("keep x (pair 0 (use p 5))", "(0 . 6)"), ("show x", "(0 . 6)"), ("begin (use p 7)", "ok"), ("go 99", "yes"),
            ("end", "8"), ("names", "p x"))

    def test_winders_of_a_part(self):
        self.say(
            ("keep p (mark t (wind (say 1) (plus 1 (take t k k)) (say 2)))", "part"), ("winds", "in 1\nout 1"),
            ("do (use p 5)", "6"), ("winds", "in 2\nout 2"), ("said", "1\n2"), ("do (use p 6)", "7"), ("winds", "in 3\nout 3"))

    def test_no_mark_of_another_row(self):
        self.say(("begin (mark t (do 1 2 3))", "ok"), ("go 3", "no"), ("do (take t k k)", 'fault "no mark"'))


class Looks(Desks):
    def test_last(self):
        self.say(
            ("keep f (fun () 1)", "fun"), ("last (call f)", "/"), ("last 5", "-"), ("last (let g f (do (call g) (call f)))", "/1/1"),
            ("last (if (call f) (call f) (fun () (call f)))", "/1\n/2/0"), ("last  (say (call f))", "-"))

    def test_escapes(self):
        self.say(
            ("escapes 5", "-"), ("escapes (catch k (go k 1))", "/ moved"), ("escapes (catch k k)", "/ /0"),
            ("escapes (do (catch k (go k 1)) (catch j (pair 1 j)))", "/0 moved\n/1 /1/0/1"),
            ("escapes (do (take t k 1) (catch k (go k 1)))", "/1 /0"), ("escapes (take t k (catch j 1))", "/0 /"))

    def test_they_work_nothing_out(self):
        self.say(("do (say 1)", "none"), ("last (say 2)", "-"), ("escapes (say 3)", "-"), ("said", "1"))

    def test_refused(self):
        for word in ("last", "escapes"):
            self.refuse(NoText, f"{word} ", at=0)
            self.refuse(NoText, f"{word} (call", at=5)
            self.refuse(NoName, f"{word} (call f)", at=(0,), name="f")
            self.refuse(NoName, f"{word} (call input)", at=(0,), name="input")
            self.refuse(NoRow, word, at=word)


class Refusals(Desks):
    def setUp(self):
        Desks.setUp(self)
        self.say(("keep x (do (say 1) (wind 0 5 6))", "5"), ("begin (do (say 2) 3)", "ok"), ("go 2", "no"))

    def test_what_is_no_row(self):
        for row in (
            "", " ", "x", "5", "keep", "do", "begin", "go", "show", "forget", "last", "escapes", "Do 5", "do\n5", "do\t5",
            " do 5", "said ", "said x", "winds ", "names ", "names x", "end ", "end 5", " end", "keep x", "keep  x 5",
            "keep yes 5", "keep no 5", "keep none 5", "keep 1x 5", "keep X 5", "keep (say 1)", "keep  5", "keep ",
            "keep abcdefghijklm 5", "keep x\n5", "keep x-y 5", "keep \"x\" 5", "show ", "show  x", "show x ", "show yes",
            "show none", "show x y", "show 5", "show X", "show (x)", "forget ", "forget no", "forget x ", "forget 1",
            "show abcdefghijklm", "go ", "go x", "go -1", "go +1", "go 01", "go 00", "go 1 ", "go  1", "go 1 2", "go 1.0",
            "go 1_0", "go 123456", "go 000001", "go 99999999999999999999", "run 5", "dodo 5", "do5", "(do 5)", "keep",
            "end\n", "said\n",
        ):
            self.refuse(NoRow, row, at=row)

    def test_terms_that_are_none(self):
        for start in ("do ", "begin ", "keep y ", "last ", "escapes "):
            for text, at in (("", 0), (" ", 1), ("(", 1), ("(do)", 3), ("5 5", 2), ("  (say -0)", 8), ("\n\n)", 2), ("(sa y", 3),
                             ("(fun (yes) 1)", 9), ("%", 0), ('"', 1)):
                self.refuse(NoText, start + text, at=at)

    def test_names_that_are_not_kept(self):
        for start in ("do ", "begin ", "keep y ", "last ", "escapes "):
            self.refuse(NoName, start + "(pair x (pair y z))", at=(1, 0), name="y")
            self.refuse(NoName, start + "(do (let y 1 y) input)", at=(1,), name="input")
        self.refuse(NoName, "show y", at=(), name="y")
        self.refuse(NoName, "forget y", at=(), name="y")
        self.refuse(NoName, "show input", at=(), name="input")

    def test_which_comes_first(self):
        # No row ahead of a wrong text, a wrong text ahead of a name that is not kept.
        self.refuse(NoRow, "keep yes (", at="keep yes (")
        self.refuse(NoRow, "keep 5 z", at="keep 5 z")
        self.refuse(NoText, "do (pair z", at=7)
        self.refuse(NoText, "keep y (pair z 1 2)", at=10)
        self.refuse(NoText, "last z z", at=2)

    def test_go_and_end_without_a_run(self):
        desk = Desk()
        for row in ("go 5", "go 0", "end"):
            with self.assertRaises(NoRow) as caught:
                desk.say(row)
            self.assertEqual(vars(caught.exception), {"at": row})

    def test_go_goes_on_behind_refusals(self):
        self.refuse(NoRow, "go 123456", at="go 123456")
        self.refuse(NoText, "begin (", at=1)
        self.refuse(NoName, "begin z", at=(), name="z")
        self.say(("go 99999", "yes"), ("end", "3"), ("said", "2"))

    def test_a_refused_row_keeps_no_name(self):
        self.refuse(NoText, "keep y (say", at=4)
        self.refuse(NoName, "keep x (do (say 1) z)", at=(1,), name="z")
        self.say(("names", "x"), ("show x", "5"))


class Others(Desks):
    def test_desks_share_nothing(self):
        other = Desk()
        self.say(("keep x (wind 0 1 2)", "1"), ("begin x", "ok"))
        self.assertEqual(other.say("names"), "-")
        self.assertEqual(other.say("do (wind 0 1 2)"), "1")
        self.assertEqual(other.say("winds"), "in 1\nout 1")
        with self.assertRaises(NoRow):
            other.say("end")

    def test_by_name_and_never_equal_to_another_kind(self):
        self.assertEqual(self.desk.say(row="do 5"), "5")
        for thing in (None, 5, "", [], {}):
            self.assertFalse(self.desk == thing)

    def test_great_terms(self):
        whole = deep(300, ("num", 7))
        self.say(("do " + shown_term(whole), "7"), ("last " + shown_term(whole), "-"))
        row = "(do " + " ".join(["(plus 1 2)"] * 12) + ")"
        self.say(("keep x (do " + " ".join([row] * 10) + ")", "3"))
        self.say(('keep y (joined "' + "a" * 100 + '" "' + "b" * 100 + '")', '"' + "a" * 100 + "b" * 100 + '"'))

    def test_many_rows(self):
        self.say(("keep n 0", "0"))
        for number in range(1, 300):
            self.say(("keep n (plus n 1)", str(number)))
        self.say(("keep c (cell 0)", "cell"), ("begin (call (rec f () (do (set c (plus (get c) 1)) (call f))))", "ok"))
        for number in range(100):
            self.say(("go 10", "no"))
        self.assertGreater(int(self.desk.say("do (get c)")), 50)


if __name__ == "__main__":
    unittest.main()
