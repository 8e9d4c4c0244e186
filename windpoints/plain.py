"""The plain meaning: a run over one row of frames that is never changed, but made anew."""

from windpoints.leaping import Leaper
from windpoints.machine import advance, result_of
from windpoints.rows import guard_in, mark_in, winders_in
from windpoints.terms import check_term

MOST = 4000


class PlainFrames:
    """Frames in a tuple, outer first; a kept row is just such a tuple."""

    def __init__(self):
        self.row = ()

    def push(self, frame):
        self.row = self.row + (frame,)

    def pull(self):
        frame = self.row[-1]
        self.row = self.row[:-1]
        return frame

    def many(self):
        return len(self.row)

    def here(self):
        return self.row

    def caught(self, path):
        return self.row

    def above(self, at):
        return self.row[at:]

    def joined(self, frames):
        return self.row + frames

    def cut(self, row, at):
        return row[:at]

    def lay(self, row):
        self.row = row

    def guarded(self):
        return guard_in(self.row)

    def mark_at(self, tag):
        return mark_in(self.row, tag)

    def winders_of(self, row):
        return winders_in(row)


def run(term, given, *, most=MOST):
    """Tell the Result of a term, input being the worth given, within at most so many steps."""
    check_term(term)
    machine = Leaper(term, given, PlainFrames())
    advance(machine, most)
    return result_of(machine)
