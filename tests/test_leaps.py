"""Promises 4, 13, 14, 15 and 16: winders, points, parts, guards, and the leaps between them."""

import unittest

from tests.ends import Ends, told
from tests.reading import term
from windpoints.plain import run


class Winders(Ends):
    def test_ids_from_one_given_when_the_first_part_has_told_its_worth(self):
        self.assert_end("(wind 1 2 3)", "worth", "2", "", "+1 -1", 4, 1)
        self.assert_end("(wind (wind 1 2 3) (wind 4 5 6) (wind 7 8 9))", "worth", "5", "", "+1 -1 +2 +3 -3 -2 +4 -4")
        self.assert_end("(do (guard (wind (fault 1) 2 3) x x) (wind 1 2 3))", "worth", "2", "", "+1 -1")
        self.assert_end("(do (wind 1 2 3) (wind 1 2 3))", "worth", "2", "", "+1 -1 +2 -2")

    def test_the_first_parts_worth_is_no_matter(self):
        for first in ("none", "no", "(fun () 1)", "(catch k k)"):
            self.assert_end(f"(wind {first} 2 {first})", "worth", "2", "", "+1 -1")

    def test_it_keeps_one_frame_at_any_time(self):
        self.assert_end("(wind (plus 1 2) 3 4)", "worth", "3", "", "+1 -1", 6, 2)
        self.assert_end("(wind 1 (plus 2 3) 4)", "worth", "5", "", "+1 -1", 6, 2)
        self.assert_end("(wind 1 2 (plus 3 4))", "worth", "2", "", "+1 -1", 6, 2)
        self.assert_stops("(wind (plus 1 2) (wind 3 4 (say 5)) (plus 6 7))")

    def test_the_environment_of_its_parts(self):
        self.assert_end("(let x 1 (wind (say x) (let x 2 (fault x)) (say x)))", "fault", "2", "1 1", "+1 -1")
        # A leap runs its parts in the wind's own environment, too.
        self.assert_end(
            "(let p (cell none) (let n (cell 0) (do"
            "  (let x 1 (wind (say x) (let x 2 (catch k (set p k))) (say (plus x 10))))"
            "  (set n (plus (get n) 1))"
            "  (let x 3 (if (less (get n) 2) (go (get p) 0) x)))))",
            "worth", "3", "1 11 1 11", "+1 -1 +1 -1")

    def test_a_fault_leaves_them(self):
        text = '(wind (say 1) (wind (say 2) (fault "f") (say 3)) (say 4))'
        self.assert_end(text, "fault", '"f"', "1 2 3 4", "+1 +2 -2 -1")
        self.assert_end(f"(guard {text} x (say x))", "worth", "none", '1 2 3 4 "f"', "+1 +2 -2 -1")
        self.assert_stops(text)
        self.assert_stops(f"(guard {text} x (say x))")

    def test_a_fault_leaves_those_inside_the_guard_alone(self):
        text = "(wind (say 1) (guard (wind (say 2) (fault 7) (say 3)) x (say x)) (say 4))"
        self.assert_end(text, "worth", "none", "1 2 3 7 4", "+1 +2 -2 -1")

    def test_height_in_the_parts_of_a_leap(self):
        # plus, guard, wind's Wind frame, pair, fault: its part has five frames around it.
        # At the going out there are plus, guard and the Leap frame.
        text = "(plus 1 (guard (wind 0 (pair 2 (fault 3)) 4) x x))"
        self.assert_end(text, "worth", "4", "", "+1 -1", 11, 5)
        self.assert_end("(guard (wind 0 (fault 3) (plus 1 (plus 2 3))) x x)", "worth", "3", "", "+1 -1", 11, 4)

    def test_a_go_leaves_them(self):
        self.assert_end("(catch k (wind (say 1) (wind (say 2) (go k 9) (say 3)) (say 4)))",
                        "worth", "9", "1 2 3 4", "+1 +2 -2 -1")
        self.assert_end("(wind (say 1) (plus 1 (catch k (wind (say 2) (go k 9) (say 3)))) (say 4))",
                        "worth", "10", "1 2 3 4", "+1 +2 -2 -1")

    def test_a_take_leaves_them(self):
        self.assert_end("(mark t (wind (say 1) (take t k (say 2)) (say 3)))", "worth", "none", "1 3 2", "+1 -1")
        self.assert_end("(wind (say 0) (mark t (wind (say 1) (wind (say 2) (take t k 9) (say 3)) (say 4))) (say 5))",
                        "worth", "9", "0 1 2 3 4 5", "+1 +2 +3 -3 -2 -1")

    def test_a_point_leads_into_them_again(self):
        text = (
            '(let p (cell none) (let n (cell 0) (do (wind (say "in") (catch k (set p k)) (say "out"))'
            "  (set n (plus (get n) 1)) (if (less (get n) 3) (go (get p) 0) (get n)))))")
        self.assert_end(text, "worth", "3", " ".join(['"in" "out"'] * 3), "+1 -1 +1 -1 +1 -1")
        self.assert_stops(text)

    def test_the_outer_ones_go_in_first(self):
        text = (
            "(let p (cell none) (let n (cell 0) (do"
            "  (wind (say 1) (wind (say 2) (catch k (set p k)) (say 3)) (say 4))"
            "  (set n (plus (get n) 1)) (if (less (get n) 2) (go (get p) 0) (get n)))))")
        self.assert_end(text, "worth", "2", "1 2 3 4 1 2 3 4", "+1 +2 -2 -1 +1 +2 -2 -1")
        self.assert_stops(text)

    def test_what_two_rows_have_in_common_stays_in(self):
        text = (
            "(let p (cell none) (let done (cell no)"
            "  (wind (say 0)"
            "    (do (wind (say 1) (catch k (set p k)) (say 2))"
            "        (wind (say 3) (if (get done) 0 (do (set done yes) (go (get p) none))) (say 4)))"
            "    (say 5))))")
        self.assert_end(text, "worth", "0", "0 1 2 3 4 1 2 3 4 5", "+1 +2 -2 +3 -3 +2 -2 +4 -4 -1")
        self.assert_stops(text)

    def test_many_of_them(self):
        text = (
            "(let p (cell none) (let n (cell 0) (do"
            "  (call (rec f (d) (if (less d 1) (catch k (set p k)) (wind 0 (call f (minus d 1)) 0))) 100)"
            "  (set n (plus (get n) 1)) (if (less (get n) 2) (go (get p) 0) (get n)))))")
        row = " ".join([f"+{number}" for number in range(1, 101)] + [f"-{number}" for number in range(100, 0, -1)])
        self.assert_end(text, "worth", "2", "", row + " " + row)


class PartsOfLeaps(Ends):
    def test_a_fault_in_the_first_part(self):
        self.assert_end("(guard (wind (fault 1) 2 (say 3)) x (plus x 10))", "worth", "11")
        # When a leap runs it, the fault meets what is outside the Wind frame in the other frames:
        # the guard around the go is not there.
        text = (
            "(let n (cell 0) (let p (cell none) (do"
            '  (wind (do (set n (plus (get n) 1)) (if (less (get n) 2) 0 (fault "again"))) (catch k (set p k)) (say 1))'
            "  (guard (go (get p) 5) e (say e)))))")
        self.assert_end(text, "fault", '"again"', "1", "+1 -1")
        self.assert_end(f"(guard {text} e (pair e 7))", "worth", '("again" . 7)', "1", "+1 -1")
        self.assert_stops(text)

    def test_a_fault_in_the_third_part(self):
        self.assert_end("(guard (wind 1 2 (fault 3)) x (plus x 10))", "worth", "13", "", "+1 -1")
        self.assert_end("(guard (wind 1 (fault 2) (fault 3)) x (plus x 10))", "worth", "13", "", "+1 -1")
        # The guard of the second part is left when the third one is begun.
        self.assert_end("(guard (wind 1 (guard (go 5 5) x (fault 2)) (fault 3)) y (pair y 4))", "worth", "(3 . 4)", "", "+1 -1")
        # The leap of the first fault is left where the second one leaves its frame.
        self.assert_end("(guard (wind (say 0) (wind (say 1) (fault 2) (fault 3)) (say 4)) x x)",
                        "worth", "3", "0 1 4", "+1 +2 -2 -1")
        self.assert_end("(wind (say 0) (wind (say 1) (fault 2) (fault 3)) (say 4))", "fault", "3", "0 1 4", "+1 +2 -2 -1")
        self.assert_end("(guard (wind 0 (wind 0 (fault 1) (guard (fault 2) x (say x))) (say 3)) y (say y))",
                        "worth", "none", "2 3 1", "+1 +2 -2 -1")

    def test_a_go_in_the_first_part(self):
        self.assert_end("(plus 1 (catch k (wind (go k 5) (say 1) (say 2))))", "worth", "6")
        # In a leap that goes in: what is still to do of the leap is left.
        text = (
            "(let n (cell 0) (let p (cell none) (catch away (do"
            "  (wind (do (set n (plus (get n) 1)) (if (less (get n) 2) 0 (go away 8))) (catch k (set p k)) (say 1))"
            "  (go (get p) 5)))))")
        self.assert_end(text, "worth", "8", "1", "+1 -1")

    def test_a_go_in_the_third_part(self):
        self.assert_end("(plus 1 (catch k (wind 0 1 (go k 5))))", "worth", "6", "", "+1 -1")
        self.assert_end("(plus 1 (catch k (wind 0 (fault 1) (go k 5))))", "worth", "6", "", "+1 -1")
        self.assert_end("(plus 1 (catch k (wind 0 (wind 0 (fault 1) (go k 5)) (say 2))))",
                        "worth", "6", "2", "+1 +2 -2 -1")
        # It leads back into the very wind that the leap leaves.
        text = (
            "(let n (cell 0) (wind (say 1)"
            "  (let p (catch k k) (do (set n (plus (get n) 1)) (if (less (get n) 3) (wind 0 (fault 7) (go p p)) (get n))))"
            "  (say 2)))")
        self.assert_end(text, "worth", "3", "1 2", "+1 +2 -2 +3 -3 -1")

    def test_a_catch_in_a_third_part_that_a_leap_runs(self):
        text = (
            "(let p (cell none) (let n (cell 0) (do"
            '  (guard (wind 0 (fault "f") (catch k (set p k))) e (say e))'
            "  (set n (plus (get n) 1)) (if (less (get n) 3) (go (get p) 0) (get n)))))")
        self.assert_end(text, "worth", "3", '"f" "f" "f"', "+1 -1")
        self.assert_stops(text)

    def test_a_catch_in_a_third_part_with_more_to_leave(self):
        text = (
            "(let p (cell none) (let n (cell 0) (do"
            "  (guard (wind (say 1) (wind 0 (fault 5) (catch k (set p k))) (say 2)) e (say e))"
            "  (set n (plus (get n) 1)) (if (less (get n) 3) (go (get p) 0) (get n)))))")
        # The point leads into the outer winder again, from where the leap goes on.
        self.assert_end(text, "worth", "3", "1 2 5 1 2 5 1 2 5", "+1 +2 -2 -1 +1 -1 +1 -1")
        self.assert_stops(text)

    def test_a_catch_in_a_first_part_that_a_leap_runs(self):
        text = (
            "(let q (cell none) (let p (cell none) (let n (cell 0) (do"
            "  (wind (catch k (set q k)) (catch k (set p k)) (say 1))"
            "  (set n (plus (get n) 1))"
            "  (if (less (get n) 2) (go (get p) 0) (if (less (get n) 4) (go (get q) 0) (get n)))))))")
        self.assert_end(text, "worth", "4", "1 1 1 1", "+1 -1 +1 -1 +1 -1 +1 -1")
        self.assert_stops(text)

    def test_a_catch_in_a_first_part_with_more_to_enter(self):
        text = (
            "(let q (cell none) (let p (cell none) (let n (cell 0) (do"
            "  (wind (catch k (set q k)) (wind (say 1) (catch k (set p k)) (say 2)) (say 3))"
            "  (set n (plus (get n) 1))"
            "  (if (less (get n) 2) (go (get p) 0) (if (less (get n) 4) (go (get q) 0) (get n)))))))")
        row = "+1 +2 -2 -1"
        self.assert_end(text, "worth", "4", " ".join(["1 2 3"] * 4), " ".join([row] * 4))
        self.assert_stops(text)

    def test_a_catch_in_a_first_part_of_the_wind_itself(self):
        # Here the point is of the wind that waits: each going on makes a winder of its own.
        text = (
            "(let q (cell none) (let n (cell 0) (do"
            "  (wind (catch k (set q k)) (say 1) (say 2))"
            "  (set n (plus (get n) 1)) (if (less (get n) 3) (go (get q) 0) (get n)))))")
        self.assert_end(text, "worth", "3", "1 2 1 2 1 2", "+1 -1 +2 -2 +3 -3")

    def test_a_catch_in_a_third_part_of_the_wind_itself(self):
        # The frame that keeps the second part's worth is the point's.
        text = (
            "(let q (cell none) (let n (cell 0) (let told"
            "  (wind 0 (plus 40 2) (catch k (set q k)))"
            "  (do (set n (plus (get n) 1)) (say told) (if (less (get n) 3) (go (get q) 0) (get n))))))")
        self.assert_end(text, "worth", "3", "42 42 42", "+1 -1")

    def test_a_wind_in_the_parts_of_a_leap(self):
        self.assert_end("(guard (wind 0 (fault 1) (wind (say 1) (say 2) (say 3))) x (say x))",
                        "worth", "none", "1 2 3 1", "+1 -1 +2 -2")
        self.assert_end("(guard (wind 0 (fault 1) (wind (say 1) (fault 2) (say 3))) x (say x))",
                        "worth", "none", "1 3 2", "+1 -1 +2 -2")

    def test_a_use_in_the_parts_of_a_leap(self):
        text = (
            "(let p (cell none) (do"
            "  (mark t (plus 1 (take t k (set p k))))"
            "  (guard (wind 0 (fault 5) (say (use (get p) 10))) x (say x))))")
        self.assert_end(text, "worth", "none", "11 5", "+1 -1")


class Points(Ends):
    def test_gone_to_from_outside_again_and_again(self):
        text = (
            "(let p (cell none) (let n (cell 0)"
            "  (let x (plus 100 (catch k (do (set p k) 0)))"
            "    (do (say x) (set n (plus (get n) 1)) (if (less (get n) 4) (go (get p) (get n)) x)))))")
        self.assert_end(text, "worth", "103", "100 101 102 103")
        self.assert_stops(text)

    def test_gone_to_from_inside_again_and_again(self):
        text = (
            "(let n (cell 0) (let x (catch k k)"
            "  (do (set n (plus (get n) 1)) (say (get n)) (if (less (get n) 3) (plus 1 (go x x)) (kind x)))))")
        self.assert_end(text, "worth", '"point"', "1 2 3")

    def test_the_worths_ahead_are_kept(self):
        # Each going on has the parts' worths told ahead of the catch, whatever came later.
        text = (
            "(let p (cell none) (let n (cell 0) (let x"
            "  (pair (do (set n (plus (get n) 1)) (get n)) (pair (catch k (do (set p k) 0)) (get n)))"
            "  (do (say x) (set n (plus (get n) 10)) (if (less (get n) 30) (go (get p) 5) 0)))))")
        self.assert_end(text, "worth", "0", "(1 . (0 . 1)) (1 . (5 . 11)) (1 . (5 . 21))")

    def test_no_frames_at_all(self):
        self.assert_end("(catch k (plus 1 (go k 5)))", "worth", "5", "", "", 6, 2)
        self.assert_end("(catch k (wind (say 1) (plus 1 (go k 5)) (say 2)))", "worth", "5", "1 2", "+1 -1")

    def test_marks_and_guards_are_caught_too(self):
        text = (
            "(let p (cell none) (let n (cell 0) (do"
            "  (guard (mark t (plus 1 (do (catch k (set p k)) (if (less (get n) 1) 0 (if (less (get n) 2) (take t j 50) (fault 7))))))"
            "    e (say e))"
            "  (set n (plus (get n) 1)) (say (get n)) (if (less (get n) 3) (go (get p) 0) 9))))")
        self.assert_end(text, "worth", "9", "1 2 7 3")

    def test_two_points_that_lead_to_each_other(self):
        text = (
            "(let a (cell none) (let b (cell none) (let n (cell 0) (do"
            "  (wind (say 1) (catch k (set a k)) (say 2))"
            "  (set n (plus (get n) 1))"
            "  (if (less 5 (get n)) (fault (get n)) 0)"
            "  (if (less (get n) 2) (wind (say 3) (catch k (set b k)) (say 4)) (go (get b) 0))"
            "  (go (get a) 0)))))")
        self.assert_end(
            text, "fault", "6", "1 2 3 4" + " 1 2 3 4" * 4 + " 1 2",
            "+1 -1 +2 -2" + " +1 -1 +2 -2" * 4 + " +1 -1")


class Parts(Ends):
    def test_up_to_the_innermost_mark_of_its_tag(self):
        self.assert_end("(mark t (plus 1 (mark t (plus 10 (take t k 5)))))", "worth", "6")
        self.assert_end("(mark t (plus 1 (mark s (plus 10 (take t k 5)))))", "worth", "5")
        self.assert_end("(mark s (plus 1 (mark t (plus 10 (take s k (pair (use k 100) (use k 200)))))))",
                        "worth", "(111 . 211)")

    def test_past_one_of_the_same_tag_further_in(self):
        # The mark t further in is past the mark s, and is laid again with the Part.
        self.assert_end('(mark t (pair "t" (mark s (pair "s" (mark t (pair "u" (take s k (use k 5))))))))',
                        "worth", '("t" . ("s" . ("u" . 5)))')
        self.assert_end(
            '(mark t (pair "t" (mark s (pair "s" (mark t (pair "u" (call (take s k (use k (fun () (take t j 5)))))))))))',
            "worth", '("t" . ("s" . 5))')

    def test_use_lays_a_mark(self):
        self.assert_end("(mark t (plus 1 (call (take t k (plus 10 (use k (fun () (take t j 5))))))))", "worth", "15")
        self.assert_end("(plus 100 (use (mark t (plus 1 (take t k k))) 5))", "worth", "106")

    def test_the_environment_is_takes_own(self):
        self.assert_end("(let x 1 (mark t (let x 2 (plus x (take t k (pair x (use k x)))))))", "worth", "(2 . 4)")

    def test_no_mark(self):
        for text in ("(take t k 5)", "(mark s (take t k 5))", "(do (mark t 1) (take t k 5))",
                     "(mark t (take t j (do (mark s 2) (take s k 5))))", "(mark tt (take t k 5))"):
            with self.subTest(term=text):
                self.assert_end(text, "fault", '"no mark"')
        self.assert_end("(guard (take t k 5) x (pair x 1))", "worth", '("no mark" . 1)')
        self.assert_end("(mark t (call (fun () (take t k 5))))", "worth", "5")

    def test_no_mark_past_a_leap_frame(self):
        self.assert_end("(mark t (guard (wind 0 (fault 1) (take t k 5)) e e))", "worth", '"no mark"', "", "+1 -1")
        self.assert_end("(mark t (guard (wind 0 1 (take t k 5)) e e))", "worth", "5", "", "+1 -1")
        # A mark inside the Leap frame serves; one outside does not, though of the same tag.
        self.assert_end("(mark t (guard (wind 0 (fault 1) (mark t (say (take t k 5)))) e e))",
                        "worth", "1", "", "+1 -1")
        self.assert_end("(mark t (guard (wind 0 (fault 1) (mark s (take t k 5))) e e))", "worth", '"no mark"', "", "+1 -1")
        # In a first part that a leap runs it is the same.
        text = (
            "(mark t (guard (let p (cell none) (let n (cell 0) (do"
            "  (wind (do (set n (plus (get n) 1)) (if (less (get n) 2) 0 (take t k 5))) (catch k (set p k)) 0)"
            "  (go (get p) 5)))) e e))")
        self.assert_end(text, "worth", '"no mark"', "", "+1 -1")

    def test_used_twice_with_new_winders(self):
        text = '(mark t (wind (say "i") (plus 1 (take t k (pair (use k 10) (use k 20)))) (say "o")))'
        self.assert_end(text, "worth", "(11 . 21)", '"i" "o" "i" "o" "i" "o"', "+1 -1 +2 -2 +3 -3")
        self.assert_stops(text)

    def test_the_outer_winders_get_the_lesser_ids(self):
        text = "(mark t (wind (say 1) (wind (say 2) (take t k (use k 5)) (say 3)) (say 4)))"
        self.assert_end(text, "worth", "5", "1 2 3 4 1 2 3 4", "+1 +2 -2 -1 +3 +4 -4 -3")
        self.assert_stops(text)

    def test_all_ids_are_given_ahead_of_the_leap(self):
        text = "(mark t (wind (wind 0 0 0) (wind 0 (take t k (use k 5)) 0) 0))"
        self.assert_end(text, "worth", "5", "", "+1 -1 +2 +3 -3 -2 +6 -6 +4 +5 -5 -4")

    def test_ids_are_given_also_where_the_leap_is_left(self):
        text = (
            "(let n (cell 0) (do"
            "  (guard (mark t (wind (do (set n (plus (get n) 1)) (if (less (get n) 2) 0 (fault 9)))"
            "                   (wind 0 (take t k (use k 5)) 0) 0)) e (say e))"
            "  (wind 0 0 0)))")
        self.assert_end(text, "worth", "0", "9", "+1 +2 -2 -1 +5 -5")

    def test_used_within_winders(self):
        text = "(let k (mark t (wind (say 1) (plus 1 (take t j j)) (say 2))) (wind (say 3) (use k 5) (say 4)))"
        self.assert_end(text, "worth", "6", "1 2 3 1 2 4", "+1 -1 +2 +3 -3 -2")

    def test_a_part_within_a_part(self):
        text = (
            "(mark s (plus 1 (mark t (plus 10 (call (take s a (use a (take t b (fun () (pair (use b (fun () 100)) 7))))))))))")
        self.assert_end(text, "fault", '"no mark"')
        text = (
            "(mark s (pair 1 (mark t (pair 2 (call (take s a (use a (fun () (take t b (use b (use b 5)))))))))))")
        self.assert_end(text, "worth", "(1 . (2 . (2 . 5)))")

    def test_a_point_within_a_part(self):
        # The point is of the frames where it was caught; using the Part lays others.
        text = (
            "(let p (cell none) (let n (cell 0)"
            "  (mark t (wind (say 1)"
            "    (do (take t k (pair (use k 0) (use k 0)))"
            "        (catch j (set p j)) (set n (plus (get n) 1)) (if (less (get n) 3) (go (get p) 0) (get n)))"
            "    (say 2)))))")
        self.assert_end(text, "worth", "(3 . 4)", "1 2 1 2 1 2", "+1 -1 +2 -2 +3 -3")
        self.assert_stops(text)


class Guards(Ends):
    def test_the_innermost_guard(self):
        self.assert_end('(guard (guard (fault 1) x (pair "inner" x)) y (pair "outer" y))', "worth", '("inner" . 1)')
        self.assert_end('(guard (do (guard 1 x (pair "inner" x)) (fault 2)) y (pair "outer" y))', "worth", '("outer" . 2)')
        self.assert_end("(guard (guard (guard (fault 1) x (fault (plus x 1))) y (fault (plus y 10))) z (plus z 100))",
                        "worth", "112")

    def test_a_fault_in_the_second_part(self):
        self.assert_end("(guard (fault 1) x (fault (plus x 1)))", "fault", "2")
        self.assert_end("(guard (guard (fault 1) x (fault (plus x 1))) y (pair y y))", "worth", "(2 . 2)")

    def test_its_environment_is_guards_own(self):
        self.assert_end("(let y 1 (guard (let y 2 (fault y)) x (pair x y)))", "worth", "(2 . 1)")
        self.assert_end("(let x 1 (do (guard (fault 2) x x) x))", "worth", "1")

    def test_what_is_outside_goes_on(self):
        self.assert_end("(plus 1 (guard (plus 10 (fault 100)) x (plus x 1000)))", "worth", "1101")

    def test_a_guard_in_a_function_called(self):
        self.assert_end("(let f (fun (n) (fault n)) (guard (call f 5) x (plus x 1)))", "worth", "6")
        self.assert_end("(let f (fun (n) (guard (fault n) x x)) (plus (call f 5) (call f 6)))", "worth", "11")

    def test_a_part_carries_its_guards(self):
        text = "(let k (mark t (guard (call (take t j j)) x (pair 1 x))) (use k (fun () (fault 5))))"
        self.assert_end(text, "worth", "(1 . 5)")
        text = "(let k (guard (mark t (call (take t j j))) x (pair 1 x)) (use k (fun () (fault 5))))"
        self.assert_end(text, "fault", "5")


class RowsOfWinders(Ends):
    def test_at_each_stop_the_outs_are_of_the_innermost(self):
        whole = term(
            "(let p (cell none) (let n (cell 0) (do"
            "  (mark t (wind 0 (wind 0 (do (catch k (set p k)) (take t k (use k 5))) 0) 0))"
            "  (set n (plus (get n) 1)) (if (less (get n) 3) (go (get p) 0) (get n)))))")
        end = run(whole, None)
        self.assertEqual(end.kind, "worth")
        self.assert_left(end.winds)
        for most in range(end.steps):
            left = []
            for way, number in run(whole, None, most=most).winds:
                if way == "in":
                    left.append(number)
                else:
                    self.assertEqual(left.pop(), number)
        self.assert_machines(whole, None, told(end))


if __name__ == "__main__":
    unittest.main()
