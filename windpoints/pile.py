"""A machine with one pile of frames, which is copied where it is caught and laid back where it is gone to.

A kept row is a list, or a number: that of the pile's outermost frames. A number is enough
where those frames are sure to lie there still when the row is laid.
"""

from windpoints.leaping import Leaper
from windpoints.looks import escapes
from windpoints.machine import advance, result_of
from windpoints.rows import guard_in, mark_in, winders_in
from windpoints.terms import check_term


class PileFrames:
    """Frames in one list; moved has the paths of the catches that need no copy, copies how many frames were copied."""

    def __init__(self, moved):
        self.pile = []
        self.moved = moved
        self.copies = 0

    def push(self, frame):
        self.pile.append(frame)

    def pull(self):
        return self.pile.pop()

    def many(self):
        return len(self.pile)

    def here(self):
        return len(self.pile)

    def caught(self, path):
        if path in self.moved:
            return len(self.pile)
        return self.above(0)

    def above(self, at):
        self.copies += len(self.pile) - at
        return self.pile[at:]

    def joined(self, frames):
        return self.pile + list(frames)

    def frames_of(self, row):
        """Tell the list of a kept row's frames."""
        return row if isinstance(row, list) else self.pile[:row]

    def cut(self, row, at):
        return row[:at] if isinstance(row, list) else at

    def lay(self, row):
        # A list may be laid again, so the pile must not be that list itself.
        self.pile = list(self.frames_of(row))

    def guarded(self):
        return guard_in(self.pile)

    def mark_at(self, tag):
        return mark_in(self.pile, tag)

    def winders_of(self, row):
        return winders_in(self.frames_of(row))


def moved_paths(term):
    """Tell the paths of the catches that may be moved, as a dict of them."""
    return {path: True for path, at in escapes(term) if at is None}


class PileRun:
    """A run that goes on by pieces, over one pile of frames."""

    def __init__(self, term, given, *, moves=False):
        check_term(term)
        self.machine = Leaper(term, given, PileFrames(moved_paths(term) if moves else {}))

    def go_on(self, many):
        """Go on for at most so many steps, and tell whether the run is at its end."""
        return advance(self.machine, many)

    def result(self):
        """Tell the Result of what was done till now."""
        return result_of(self.machine)

    def copied(self):
        """Tell how many frames were copied till now."""
        return self.machine.frames.copies
