"""Promise 29: words of points, and that every machine tells the same of them."""

import unittest

from tests.ends import Ends, told
from tests.plain_words import TooLong, expanded, reckoned
from tests.random_words import random_words
from tests.reading import term
from windpoints.kept import Kept, kept_from
from windpoints.plain import run
from windpoints.terms import check_term, free_names, part_at, paths
from windpoints.words import all_of, choose, deed, give, giver, handled
from windpoints.worths import Pair, shown, unchained

NO_MARK = '"no mark"'


def num(number):
    return ("num", number)


def nums(*numbers):
    return [num(number) for number in numbers]


def put(text, **words):
    """The term of a text in which names in capitals stand for terms that are handed in."""
    def filled(part):
        if not isinstance(part, tuple):
            return part
        if len(part) == 2 and part[0] == "name" and part[1] in words:
            return words[part[1]]
        return tuple(filled(thing) for thing in part)

    return filled(term(text))


class Words(Ends):
    def assert_chain(self, whole, *texts, **more):
        """Check the worths of an all_of by their texts."""
        worth = "none"
        for text in reversed(texts):
            worth = f"({text} . {worth})"
        return self.assert_end(whole, "worth", worth, **more)


class Choices(Words):
    def test_without_a_choose(self):
        self.assert_chain(all_of(num(5)), "5")
        self.assert_chain(all_of(term("(do (say 1) none)")), "none", output="1")

    def test_none_one_and_several_terms(self):
        self.assert_chain(all_of(choose([])))
        self.assert_chain(all_of(choose(nums(7))), "7")
        self.assert_chain(all_of(choose(nums(1, 2))), "1", "2")
        self.assert_chain(all_of(choose(nums(6, 5, 4, 3, 2, 1))), "6", "5", "4", "3", "2", "1")

    def test_a_list_or_a_tuple_which_stays(self):
        terms = nums(1, 2, 3)
        self.assertEqual(choose(terms), choose(tuple(terms)))
        told_term = choose(terms)
        again = choose(nums(1, 2, 3))
        terms.clear()
        self.assertEqual(told_term, again)
        self.assertEqual(choose([]), choose(()))

    def test_behind_one_another(self):
        whole = all_of(put("(pair A B)", A=choose(nums(1, 2)), B=choose(nums(3, 4))))
        self.assert_chain(whole, "(1 . 3)", "(1 . 4)", "(2 . 3)", "(2 . 4)")
        whole = all_of(put("(let x A (if (same x 2) B x))", A=choose(nums(1, 2, 3)), B=choose([])))
        self.assert_chain(whole, "1", "3")

    def test_within_one_another(self):
        self.assert_chain(all_of(choose([choose(nums(1, 2)), num(3), choose([]), choose(nums(4))])), "1", "2", "3", "4")
        self.assert_chain(all_of(choose([put("(plus A 10)", A=choose(nums(1, 2))), num(3)])), "11", "12", "3")

    def test_all_of_within_all_of(self):
        inner = all_of(choose(nums(1, 2)))
        self.assert_chain(all_of(inner), "(1 . (2 . none))")
        whole = all_of(put("(pair A B)", A=choose(nums(8, 9)), B=inner))
        self.assert_chain(whole, "(8 . (1 . (2 . none)))", "(9 . (1 . (2 . none)))")
        whole = all_of(put("(pair B A)", A=choose(nums(8, 9)), B=inner))
        self.assert_chain(whole, "((1 . (2 . none)) . 8)", "((1 . (2 . none)) . 9)")
        # In the inner one's own terms a choose belongs to the inner one.
        whole = all_of(put("(first A)", A=all_of(choose([choose(nums(1, 2)), num(3)]))))
        self.assert_chain(whole, "1")

    def test_what_was_done_ahead_is_not_done_again(self):
        whole = all_of(put('(do (say "a") (let x A (do (say x) (let y B (do (say y) (plus x y))))))',
                           A=choose(nums(10, 20)), B=choose(nums(1, 2))))
        self.assert_chain(whole, "11", "12", "21", "22", output='"a" 10 1 2 20 1 2')

    def test_only_the_chosen_term_is_worked_out(self):
        whole = all_of(choose([term("(say 1)"), term("(say 2)")]))
        self.assert_chain(whole, "none", "none", output="1 2")
        whole = put("(guard A x x)", A=all_of(choose([term("(do (say 1) (fault 5))"), term("(say 2)")])))
        self.assert_end(whole, "worth", "5", output="1")

    def test_cells_keep_what_they_hold(self):
        whole = put("(let c (cell 0) (pair A (get c)))",
                    A=all_of(put("(do A (set c (plus (get c) 1)) (get c))", A=choose(nums(0, 0, 0)))))
        self.assert_end(whole, "worth", "((1 . (2 . (3 . none))) . 3)")

    def test_a_fault_that_leaves_it(self):
        self.assert_end(all_of(put("(do A (fault 7))", A=choose(nums(1, 2)))), "fault", "7")
        # The first one's worth is lost with the second one's fault.
        whole = put("(guard A x (pair x x))", A=all_of(choose([num(1), term("(fault 2)"), term("(say 3)")])))
        self.assert_end(whole, "worth", "(2 . 2)")
        # A guard within is gone on with, too.
        whole = all_of(put("(guard A x (plus x 100))", A=choose([num(1), term("(fault 2)"), num(3)])))
        self.assert_chain(whole, "1", "102", "3")

    def test_a_truth_that_decides(self):
        # Numbers of which the squares add up, found by going back.
        whole = all_of(put(
            "(let a A (let b B (let c C (if (same (plus (times a a) (times b b)) (times c c)) (pair a (pair b c)) D))))",
            A=choose(nums(3, 4)), B=choose(nums(4, 5)), C=choose(nums(5, 6)), D=choose([])))
        self.assert_chain(whole, "(3 . (4 . 5))")

    def test_in_a_function_that_is_called(self):
        whole = put("(let pick (fun (x y) A) B)", A=choose([("name", "x"), ("name", "y")]),
                    B=all_of(term("(plus (call pick 1 2) (call pick 10 20))")))
        self.assert_chain(whole, "11", "21", "12", "22")

    def test_winders_between(self):
        whole = all_of(("wind", term("(say 1)"), choose(nums(7, 8)), term("(say 2)")))
        self.assert_chain(whole, "7", "8", output="1 2 1 2 1 2", winds="+1 -1 +2 -2 +3 -3")
        whole = all_of(("wind", term("(say 1)"), choose([]), term("(say 2)")))
        self.assert_chain(whole, output="1 2", winds="+1 -1")
        # Winders outside an all_of stay in.
        whole = ("wind", term("(say 1)"), all_of(choose(nums(7, 8))), term("(say 2)"))
        self.assert_chain(whole, "7", "8", output="1 2", winds="+1 -1")
        whole = all_of(put("(wind 0 (wind 0 (plus A B) 0) 0)", A=choose(nums(7)), B=choose(nums(1, 2))))
        self.assert_chain(whole, "8", "9", winds="+1 +2 -2 -1 +3 +4 -4 -3 +5 +6 -6 -5 +7 +8 -8 -7")

    def test_without_an_all_of(self):
        for terms in ([], nums(1), [term("(say 1)"), num(2)]):
            self.assert_end(choose(terms), "fault", NO_MARK)
            self.assert_end(put("(guard A x (pair x 1))", A=choose(terms)), "worth", f"({NO_MARK} . 1)")
        # Behind it there is none either.
        self.assert_end(put("(do A B)", A=all_of(num(1)), B=choose(nums(1))), "fault", NO_MARK)

    def test_many_of_which_the_last_term_is_worked_out(self):
        whole = put("(call (rec f (n) (if (less n 1) 0 (plus A (call f (minus n 1))))) 150)", A=choose(nums(1)))
        self.assert_chain(all_of(whole), "150")

    def test_thirty_with_a_term_left(self):
        text = "(call (rec f (n) (if (less n 1) 0 (plus A (call f (minus n 1))))) 30)"
        self.assert_chain(all_of(put(text, A=choose([num(1), choose([])]))), "30")
        self.assert_end(all_of(put(text.replace(" 0 ", ' (fault "f") '), A=choose(nums(1, 2)))), "fault", '"f"')

    def test_three_hundred_worths(self):
        whole = all_of(put("(call (rec f (n) (if (less n 1) A B)) 300)", A=choose([]), B=choose(
            [("name", "n"), term("(call f (minus n 1))")])))
        result = run(whole, None, most=20000)
        self.assertEqual(unchained(result.worth), list(range(300, 0, -1)))


class Givers(Words):
    def assert_calls(self, made, many, output, **more):
        """Check what so many calls of a giver tell, said one by one."""
        calls = " ".join(["(say (call g))"] * many)
        return self.assert_end(put(f"(let g G (do {calls}))", G=made), "worth", "none", output=output, **more)

    def test_a_function_without_names(self):
        made = giver("x", give("x", num(1)))
        self.assert_end(put("(kind G)", G=made), "worth", '"fun"')
        self.assert_end(put("(call G 1)", G=made), "fault", '"how many"')

    def test_until_none_and_further(self):
        made = giver("x", put("(do A B C)", A=give("x", num(1)), B=give("x", num(2)), C=give("x", num(3))))
        self.assert_calls(made, 6, "1 2 3 none none none")

    def test_nothing_given(self):
        self.assert_calls(giver("x", term("(say 5)")), 3, "5 none none none")

    def test_it_begins_with_the_first_call(self):
        made = giver("x", put("(do (say 1) A (say 2) B (say 3))", A=give("x", num(10)), B=give("x", num(20))))
        self.assert_end(put("(let g G (say 0))", G=made), "worth", "none", output="0")
        self.assert_calls(made, 4, "1 10 2 20 3 none none")

    def test_gives_worth_is_none(self):
        made = giver("x", put("(do (say A) B)", A=give("x", num(1)), B=give("x", num(2))))
        self.assert_calls(made, 3, "1 none 2 none")

    def test_its_part_is_worked_out_first(self):
        made = giver("x", give("x", term("(do (say 5) 6)")))
        self.assert_calls(made, 2, "5 6 none")
        made = giver("x", give("x", put("(pair A 2)", A=give("x", num(1)))))
        self.assert_calls(made, 3, "1 (none . 2) none")

    def test_rounds_of_a_rec(self):
        made = giver("x", put("(call (rec f (n) (do A (call f (plus n 1)))) 1)", A=give("x", ("name", "n"))))
        self.assert_calls(made, 5, "1 2 3 4 5")
        made = giver("x", put("(call (rec f (n) (if (less n 4) (do A (call f (plus n 1))) n)) 1)", A=give("x", ("name", "n"))))
        self.assert_calls(made, 5, "1 2 3 none none")

    def test_two_beside_each_other(self):
        counting = put("(call (rec f (n) (do A (call f (plus n 1)))) 1)", A=give("x", ("name", "n")))
        whole = put("(let g A (let h B (do (say (call g)) (say (call g)) (say (call h)) (say (call g)) (say (call h)))))",
                    A=giver("x", counting), B=giver("x", counting))
        self.assert_end(whole, "worth", "none", output="1 2 1 3 2")
        # Two of one place, each by itself.
        whole = put("(let make (fun () A) (let g (call make) (let h (call make) (do (say (call g)) (say (call g))"
                    " (say (call h)) (say (call g))))))", A=giver("x", counting))
        self.assert_end(whole, "worth", "none", output="1 2 1 3")

    def test_one_within_another(self):
        inner = giver("y", put("(do A B)", A=give("y", num(1)), B=give("y", num(2))))
        # The outer one gives what the inner one gives.
        outer = giver("x", put("(let g G (do A B C))", G=inner, A=give("x", term("(call g)")),
                               B=give("x", term("(plus 10 (call g))")), C=give("x", term("(call g)"))))
        self.assert_calls(outer, 5, "1 12 none none none")
        # A give of the outer one in the inner one's term: that call is left, and gone on with once.
        inner = giver("y", put("(do A B C)", A=give("x", num(5)), B=give("y", num(6)), C=give("x", num(7))))
        outer = giver("x", put("(let g G (do (say (call g)) (say (call g)) A))", G=inner, A=give("x", num(8))))
        self.assert_calls(outer, 5, "5 6 7 none 8 none none")

    def test_one_made_anew_by_its_own_term(self):
        # The numbers of a tree of pairs, from the left.
        walk = put(
            "(let walk (rec walk (t) G) (let g (call walk input) (do (say (call g)) (say (call g)) (say (call g)) (say (call g)))))",
            G=giver("x", put(
                '(if (same (kind t) "pair") (do (call (rec all (g) (let v (call g) (if (same v none) 0 (do A (call all g)))))'
                ' (call walk (first t))) (call (rec all (g) (let v (call g) (if (same v none) 0 (do A (call all g)))))'
                " (call walk (rest t)))) B)", A=give("x", ("name", "v")), B=give("x", ("name", "t")))))
        self.assert_end(walk, "worth", "none", output="1 2 3 none", given=Pair(Pair(1, 2), 3))

    def test_winders_between(self):
        made = giver("x", ("wind", term("(say 1)"), put("(do A B)", A=give("x", num(7)), B=give("x", num(8))), term("(say 2)")))
        self.assert_calls(made, 4, "1 2 7 1 2 8 1 2 none none", winds="+1 -1 +2 -2 +3 -3")
        # A winder around a call stays in.
        whole = put("(let g G (do (wind 0 (say (call g)) 0) (wind 0 (say (call g)) 0)))", G=giver("x", give("x", num(7))))
        self.assert_end(whole, "worth", "none", output="7 none", winds="+1 -1 +2 -2")

    def test_a_give_outside(self):
        self.assert_end(give("x", term("(say 5)")), "fault", NO_MARK, output="5")
        self.assert_end(put("(guard A y (pair y 1))", A=give("x", num(1))), "worth", f"({NO_MARK} . 1)")
        # Whatever worth the name has there.
        for worth in ("1", "(fun () 1)", "(cell none)", "(catch k k)"):
            self.assert_end(put(f"(let x {worth} A)", A=give("x", term("(say 5)"))), "fault", NO_MARK, output="5")
        self.assert_end(put("(let x G A)", G=giver("x", num(1)), A=give("x", num(5))), "fault", NO_MARK)
        # In a giver of another name.
        self.assert_end(put("(call G)", G=giver("y", give("x", num(5)))), "fault", NO_MARK)
        # Behind a call, and in a function that was made in its term.
        made = put("(let f (cell none) (let g G (do (call g) (call (get f)))))",
                   G=giver("x", put("(set f (fun () A))", A=give("x", num(5)))))
        self.assert_end(made, "fault", NO_MARK)

    def test_its_term_sees_what_is_around_it(self):
        whole = put("(let a 5 (let g G (let a 6 (call g))))", G=giver("x", give("x", ("name", "a"))))
        self.assert_end(whole, "worth", "5")

    def test_names_of_ten_signs(self):
        self.assert_calls(giver("abcdefghij", give("abcdefghij", num(1))), 2, "1 none")
        # Unlike ones are not mixed up.
        whole = put("(call G)", G=giver("abcdefghij", give("abcdefghik", num(1))))
        self.assert_end(whole, "fault", NO_MARK)


class Deeds(Words):
    def handling(self, term_in, text, word="w", **words):
        return handled(word, "x", "k", term_in, put(text, **words))

    def test_without_a_deed(self):
        self.assert_end(self.handling(term("(say 5)"), "(say 6)"), "worth", "none", output="5")

    def test_k_called_never_once_and_several_times(self):
        body = put("(plus A 1)", A=deed("w", num(5)))
        self.assert_end(self.handling(body, "(pair x x)"), "worth", "(5 . 5)")
        self.assert_end(self.handling(body, "(call k 10)"), "worth", "11")
        self.assert_end(self.handling(body, "(pair x (call k x))"), "worth", "(5 . 6)")
        self.assert_end(self.handling(body, "(pair (call k 1) (pair (call k 2) (call k 3)))"), "worth", "(2 . (3 . 4))")
        self.assert_end(self.handling(body, "(kind k)"), "worth", '"fun"')
        self.assert_end(self.handling(body, "(call k)"), "fault", '"how many"')

    def test_its_part_is_worked_out_first(self):
        body = put("(do (say 1) A (say 2))", A=deed("w", term("(do (say 3) 4)")))
        self.assert_end(self.handling(body, "(do (say x) (call k 0) (say 5))"), "worth", "none", output="1 3 4 2 5")
        body = deed("w", deed("w", num(1)))
        self.assert_end(self.handling(body, "(do (say x) (call k (plus x 10)))"), "worth", "21", output="1 11")

    def test_later_deeds_are_handled_likewise(self):
        body = put("(pair A (pair B C))", A=deed("w", num(1)), B=deed("w", num(2)), C=deed("w", num(3)))
        self.assert_end(self.handling(body, "(call k (times x 10))"), "worth", "(10 . (20 . 30))")
        self.assert_end(self.handling(body, "(pair x (call k x))"), "worth", "(1 . (2 . (3 . (1 . (2 . 3)))))")
        # What the last one that came tells is what the calls ahead tell.
        self.assert_end(self.handling(body, "(if (same x 3) 99 (pair x (call k x)))"), "worth", "(1 . (2 . 99))")

    def test_deeds_many_times_over(self):
        body = put("(plus A B)", A=deed("w", num(0)), B=deed("w", num(0)))
        whole = self.handling(body, "(pair (call k 1) (call k 2))")
        self.assert_end(whole, "worth", "((2 . 3) . (3 . 4))")

    def test_deeds_in_the_handler_belong_further_out(self):
        inner = self.handling(deed("w", num(1)), "(pair 0 A)", A=deed("w", num(2)))
        self.assert_end(inner, "fault", NO_MARK)
        whole = self.handling(inner, "(call k (plus x 100))")
        self.assert_end(whole, "worth", "(0 . 102)")
        inner = self.handling(put("(plus 1 A)", A=deed("w", num(1))), "(call k A)", A=deed("w", ("name", "x")))
        self.assert_end(self.handling(inner, "(do (say x) (call k 7))"), "worth", "8", output="1")

    def test_within_another_of_the_same_word(self):
        inner = self.handling(deed("w", num(1)), "(call k (plus x 10))")
        whole = self.handling(put("(pair A B)", A=inner, B=deed("w", num(2))), "(call k (plus x 100))")
        self.assert_end(whole, "worth", "(11 . 102)")

    def test_of_two_words(self):
        body = put("(pair A B)", A=deed("a", num(1)), B=deed("b", num(2)))
        inner = self.handling(body, "(call k (plus x 10))", word="a")
        self.assert_end(self.handling(inner, "(call k (plus x 100))", word="b"), "worth", "(11 . 102)")
        # What is between is gone on with, too: the deed a behind b's k is handled by the inner one.
        body = put("(pair A B)", A=deed("b", num(1)), B=deed("a", num(2)))
        inner = self.handling(body, "(call k (plus x 10))", word="a")
        self.assert_end(self.handling(inner, "(pair (call k 5) (call k 6))", word="b"), "worth", "((5 . 12) . (6 . 12))")

    def test_k_called_behind_the_handled(self):
        whole = put("(let k H (pair (call k 1) (call k 2)))", H=self.handling(put("(plus A B)", A=deed("w", num(0)), B=deed(
            "w", num(5))), "(if (same x 0) k (call k x))"))
        self.assert_end(whole, "worth", "(6 . 7)")

    def test_rounds(self):
        # A state by deeds: of none it is told, of another worth it is that from then on.
        body = put("(call (rec f (n) (if (less n 1) A (do B (call f (minus n 1))))) 4)",
                   A=deed("state", ("none",)), B=deed("state", put("(plus A 10)", A=deed("state", ("none",)))))
        whole = put("(call H 0)", H=handled("state", "x", "k", put("(let v A (fun (s) v))", A=body), term(
            "(if (same x none) (fun (s) (call (call k s) s)) (fun (s) (call (call k none) x)))")))
        self.assert_end(whole, "worth", "40")

    def test_without_a_handled(self):
        self.assert_end(deed("w", term("(say 5)")), "fault", NO_MARK, output="5")
        self.assert_end(self.handling(deed("v", num(1)), "5"), "fault", NO_MARK)
        whole = put("(do H (guard A y (pair y 1)))", H=self.handling(num(1), "2"), A=deed("w", num(1)))
        self.assert_end(whole, "worth", f"({NO_MARK} . 1)")

    def test_faults(self):
        body = put("(guard (plus A (fault 3)) y (pair y 1))", A=deed("w", num(1)))
        self.assert_end(self.handling(body, "(call k 5)"), "worth", "(3 . 1)")
        self.assert_end(self.handling(body, "(fault x)"), "fault", "1")
        whole = put("(guard H y (pair y 2))", H=self.handling(body, "(fault x)"))
        self.assert_end(whole, "worth", "(1 . 2)")

    def test_winders_between(self):
        body = ("wind", term("(say 1)"), put("(plus A 1)", A=deed("w", num(5))), term("(say 2)"))
        self.assert_end(self.handling(body, "(say x)"), "worth", "none", output="1 2 5", winds="+1 -1")
        self.assert_end(self.handling(body, "(pair (call k 1) (call k 2))"), "worth", "(2 . 3)", output="1 2 1 2 1 2",
                        winds="+1 -1 +2 -2 +3 -3")
        self.assert_end(self.handling(put("(wind 0 A 0)", A=body), "(call k x)"), "worth", "6", output="1 2 1 2",
                        winds="+1 +2 -2 -1 +3 +4 -4 -3")

    def test_names(self):
        whole = handled("abcdefghij", "input", "fun", deed("abcdefghij", ("name", "input")), term("(call fun (plus input 1))"))
        self.assert_end(whole, "worth", "6", given=5)
        # The names are bound in the handler alone.
        whole = put("(let x 1 (let k 2 H))", H=self.handling(put("(pair (pair x k) A)", A=deed("w", num(7))), "(call k x)"))
        self.assert_end(whole, "worth", "((1 . 2) . 7)")


class Together(Words):
    def test_a_choose_within_a_handled(self):
        body = put("(pair A B)", A=choose(nums(1, 2)), B=deed("w", num(3)))
        whole = all_of(handled("w", "x", "k", body, term("(pair x (call k x))")))
        self.assert_chain(whole, "(3 . (1 . 3))", "(3 . (2 . 3))")

    def test_a_choose_in_a_handler(self):
        whole = all_of(handled("w", "x", "k", put("(plus A 1)", A=deed("w", num(5))), put(
            "(call k A)", A=choose(nums(10, 20)))))
        self.assert_chain(whole, "11", "21")

    def test_an_all_of_that_is_gone_on_with_more_than_once(self):
        body = all_of(put("(pair A B)", A=choose(nums(1, 2)), B=deed("w", num(0))))
        whole = handled("w", "x", "k", body, term("(pair (call k 5) (call k 6))"))
        # Each going on has its own choices and worths.
        self.assert_end(whole, "worth", "((((1 . 5) . ((2 . 5) . none)) . ((1 . 5) . ((2 . 6) . none)))"
                        " . (((1 . 6) . ((2 . 5) . none)) . ((1 . 6) . ((2 . 6) . none))))")

    def test_an_all_of_that_is_left(self):
        whole = handled("w", "x", "k", all_of(put("(do A B)", A=choose(nums(1, 2)), B=deed("w", num(7)))), term("x"))
        self.assert_end(whole, "worth", "7")

    def test_a_giver_in_an_all_of(self):
        whole = all_of(put("(let g G (let y A (do (call g) (plus y (call g)))))", A=choose(nums(10)), G=giver(
            "x", put("(do A B)", A=give("x", num(1)), B=give("x", num(2))))))
        self.assert_chain(whole, "12")

    def test_deeds_of_a_givers_term_belong_to_where_it_is_called(self):
        made = giver("x", put("(do A B)", A=give("x", deed("w", num(1))), B=give("x", deed("w", num(2)))))
        whole = put("(let g G (pair A B))", G=made, A=handled("w", "x", "k", term("(call g)"), term("(call k (plus x 10))")),
                    B=handled("w", "x", "k", term("(call g)"), term("(call k (plus x 20))")))
        self.assert_end(whole, "worth", "(11 . 22)")

    def test_gives_of_what_was_chosen(self):
        made = giver("x", give("x", all_of(choose(nums(1, 2)))))
        self.assert_end(put("(call G)", G=made), "worth", "(1 . (2 . none))")


class Forms(Words):
    def test_they_are_terms_with_no_names_but_what_is_handed_in(self):
        free = term("(call one two)")
        for told_term, names in (
            (all_of(free), ["one", "two"]), (choose([free, ("name", "three")]), ["one", "three", "two"]), (choose([]), []),
            (giver("x", free), ["one", "two"]), (give("x", free), ["one", "two"]), (deed("w", free), ["one", "two"]),
            (handled("w", "x", "k", free, ("name", "three")), ["one", "three", "two"]),
            (handled("w", "x", "k", free, term("(call k x)")), ["one", "two"]),
            (handled("w", "x", "k", term("(call k x)"), free), ["k", "one", "two", "x"]),
        ):
            check_term(told_term, names=names)
            self.assertEqual(free_names(told_term), names)
            self.assertIs(type(told_term), tuple)

    def test_nothing_is_wound_by_words(self):
        for told_term in (all_of(choose(nums(1, 2))), giver("x", give("x", num(1))), handled("w", "x", "k", deed(
                "w", num(1)), num(2))):
            kinds = {part_at(told_term, path)[0] for path in paths(told_term)}
            self.assertNotIn("wind", kinds)

    def test_asked_by_names_and_again(self):
        self.assertEqual(all_of(term=num(1)), all_of(num(1)))
        self.assertEqual(choose(terms=nums(1)), choose(nums(1)))
        self.assertEqual(giver(name="x", term=num(1)), giver("x", num(1)))
        self.assertEqual(give(term=num(1), name="x"), give("x", num(1)))
        self.assertEqual(deed(word="w", term=num(1)), deed("w", num(1)))
        self.assertEqual(handled(word="w", name="x", going="k", term=num(1), handler=num(2)),
                         handled("w", "x", "k", num(1), num(2)))

    def test_words_within_words_many_deep(self):
        whole = num(1)
        for number in range(12):
            whole = handled("w", "x", "k", put("(plus A B)", A=whole, B=deed("w", num(number))), term("(call k (plus x 1))"))
        self.assert_end(whole, "worth", str(1 + sum(range(1, 13))))
        whole = num(1)
        for number in range(12):
            whole = all_of(choose([whole, num(number)]))
        result = run(whole, None, most=20000)
        self.assertEqual(shown(unchained(result.worth)[1]), "11")


class ByChance(Ends):
    def test_terms_made_by_chance(self):
        many = {"worth": 0, "fault": 0}
        winds = 0
        for seed in range(700):
            whole = random_words(seed, 3 + seed % 5)
            with self.subTest(seed=seed):
                try:
                    kind, worth, output, row = reckoned(whole, 5)
                except TooLong:
                    continue
                result = run(expanded(whole), 5, most=20000)
                self.assertEqual((result.kind, shown(result.worth), result.output, result.winds), (kind, worth, output, row))
                self.assert_left(result.winds)
                many[kind] += 1
                winds += len(row)
        self.assertGreater(min(many.values()), 150)
        self.assertGreater(winds, 1000)

    def test_the_same_by_every_machine(self):
        for seed in range(0, 700, 7):
            whole = expanded(random_words(seed, 3 + seed % 3))
            result = run(whole, 5, most=20000)
            if result.kind != "steps" and result.steps < 1500:
                with self.subTest(seed=seed):
                    self.assert_machines(whole, 5, told(result))

    def test_kept_in_their_midst(self):
        for seed in range(0, 200, 5):
            whole = expanded(random_words(seed, 4))
            end = told(run(whole, 5, most=900))
            kept = Kept(whole, 5)
            for many in (3, 20, 77, 800):
                kept = kept_from(kept.text())
                kept.go_on(many)
            self.assertEqual(told(kept.result()), end)


if __name__ == "__main__":
    unittest.main()
