"""Runs that can be kept as texts in their midst, and come up again."""

from windpoints.heap import HeapFrames
from windpoints.keeping import rests_kept
from windpoints.leaping import Leaper
from windpoints.lines import all_lined, rests_of
from windpoints.machine import advance, result_of
from windpoints.restoring import restored
from windpoints.terms import check_term


class Kept:
    """A run that goes on by pieces, over frames on a heap, and can be kept as a text."""

    def __init__(self, term, given):
        check_term(term)
        self.whole = term
        self.machine = Leaper(term, given, HeapFrames())

    def go_on(self, many):
        """Go on for at most so many steps, and tell whether the run is at its end."""
        return advance(self.machine, many)

    def result(self):
        """Tell the Result of what was done till now."""
        return result_of(self.machine)

    def text(self):
        """Tell a text of all that the run keeps."""
        return all_lined(rests_kept(self.whole, self.machine))


def kept_from(text):
    """Tell a run that goes on as the one of which this is the text; a text that was spoilt is refused."""
    term, machine = restored(rests_of(text))
    kept = Kept(term, None)
    kept.machine = machine
    return kept
