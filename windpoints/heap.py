"""A machine whose frames lie on a heap, each with a way to the one outside it, and are shared.

A kept row is its innermost Node, or None: what is caught is never copied.
"""

from windpoints.leaping import Leaper
from windpoints.machine import advance, result_of
from windpoints.rows import is_guard
from windpoints.terms import check_term


class Node:
    """A frame on the heap: the Node outside it, how many frames there are with it, and the nearest Wind Node."""

    def __init__(self, frame, outer):
        self.frame = frame
        self.outer = outer
        self.height = 1 if outer is None else outer.height + 1
        if frame[0] == "wind":
            self.wind = self
        else:
            self.wind = None if outer is None else outer.wind


class HeapFrames:
    """Frames in Nodes, of which the innermost is top."""

    def __init__(self):
        self.top = None

    def push(self, frame):
        self.top = Node(frame, self.top)

    def pull(self):
        frame = self.top.frame
        self.top = self.top.outer
        return frame

    def many(self):
        return 0 if self.top is None else self.top.height

    def here(self):
        return self.top

    def caught(self, path):
        return self.top

    def above(self, at):
        told = []
        node = self.top
        while node is not None and node.height > at:
            told.append(node.frame)
            node = node.outer
        return tuple(told[::-1])

    def joined(self, frames):
        node = self.top
        for frame in frames:
            node = Node(frame, node)
        return node

    def cut(self, row, at):
        node = row
        while node is not None and node.height > at:
            node = node.outer
        return node

    def lay(self, row):
        self.top = row

    def guarded(self):
        node = self.top
        while node is not None and not is_guard(node.frame):
            node = node.outer
        return None if node is None else (node.height - 1, node.frame)

    def mark_at(self, tag):
        node = self.top
        while node is not None and node.frame[0] != "leap":
            if node.frame[0] == "mark" and node.frame[1] == tag:
                return node.height - 1
            node = node.outer
        return None

    def winders_of(self, row):
        told = []
        node = row
        while node is not None and node.wind is not None:
            told.append((node.wind.height - 1, node.wind.frame))
            node = node.wind.outer
        return told[::-1]


class HeapRun:
    """A run that goes on by pieces, over frames on a heap."""

    def __init__(self, term, given):
        check_term(term)
        self.machine = Leaper(term, given, HeapFrames())

    def go_on(self, many):
        """Go on for at most so many steps, and tell whether the run is at its end."""
        return advance(self.machine, many)

    def result(self):
        """Tell the Result of what was done till now."""
        return result_of(self.machine)
