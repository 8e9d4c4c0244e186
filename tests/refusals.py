"""What everything that is asked of a term refuses alike, by promise 7."""

from tests.reading import term
from tests.samples import MAKERS, NO_TERMS, deep, kinds_with_parts, with_part
from windpoints.errors import NoName, NoTerm


class Refusing:
    """Tests of refusals for a TestCase that tells, by asked, the functions of a term that refuse."""

    def asked(self):
        raise NotImplementedError

    def assert_refused(self, error, thing, **fields):
        for number, ask in enumerate(self.asked()):
            with self.subTest(number=number, thing=thing):
                with self.assertRaises(error) as caught:
                    ask(thing)
                self.assertEqual(vars(caught.exception), fields)

    def test_what_is_no_term(self):
        for thing in NO_TERMS:
            self.assert_refused(NoTerm, thing, at=())
            self.assert_refused(NoTerm, ("say", ("do", (("num", 1), thing))), at=(0, 1))

    def test_a_part_that_is_no_term_in_each_kind(self):
        for kind in kinds_with_parts():
            for at in range(MAKERS[kind][0]):
                self.assert_refused(NoTerm, with_part(kind, at, 5), at=(at,))

    def test_a_name_that_is_neither_bound_nor_input(self):
        self.assert_refused(NoName, ("name", "x"), at=(), name="x")
        self.assert_refused(NoName, term("(do input (let x 1 x) x)"), at=(2,), name="x")
        # It is refused ahead of all steps, also where it would never be begun.
        self.assert_refused(NoName, term("(if yes (say 1) y)"), at=(2,), name="y")

    def test_no_term_comes_ahead_of_no_name(self):
        self.assert_refused(NoTerm, ("do", (("name", "x"), ("num", True))), at=(1,))

    def test_deep_ones(self):
        self.assert_refused(NoTerm, deep(300, 5), at=(1,) * 300)
