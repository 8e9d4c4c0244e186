"""Traces: what is told of a run step by step, and whether a list is what would be told."""

from windpoints.heap import HeapFrames
from windpoints.leaping import Leaper
from windpoints.machine import take_step
from windpoints.plain import MOST
from windpoints.terms import check_term
from windpoints.worths import is_whole


def wound_on(ids, turns):
    """Tell the ids that are in behind some more of a run's row of winders."""
    inside = ids
    for way, number in turns:
        inside = inside + (number,) if way == "in" else inside[:-1]
    return inside


def trace(term, given, *, most=MOST):
    """Tell (path, height, how many texts, ids that are in) of each step of a run, at most so many."""
    check_term(term)
    machine = Leaper(term, given, HeapFrames())
    rows = []
    ids = ()
    wound = 0
    while machine.stage == "begin" and len(rows) < most:
        ids = wound_on(ids, machine.winds[wound:])
        wound = len(machine.winds)
        rows.append((machine.place.path, machine.frames.many(), len(machine.output), ids))
        take_step(machine)
    return rows


def are_whole_in(thing):
    return isinstance(thing, tuple) and all([is_whole(number) for number in thing])


def is_row(thing):
    """Tell whether a thing has the form of a trace's row; Python's == alone would let truths by for numbers."""
    if not isinstance(thing, tuple) or len(thing) != 4:
        return False
    path, height, many, ids = thing
    return are_whole_in(path) and is_whole(height) and is_whole(many) and are_whole_in(ids)


def first_wrong(term, given, rows, *, most=MOST):
    """Tell the place of the first thing in a list at which it isn't the trace, or None where it is."""
    told = trace(term, given, most=most)
    for at, (thing, row) in enumerate(zip(rows, told)):
        if not is_row(thing) or thing != row:
            return at
    return None if len(rows) == len(told) else min(len(rows), len(told))


def is_trace(term, given, thing, *, most=MOST):
    """Tell whether a thing, which may be anything, is the trace."""
    check_term(term)
    return isinstance(thing, list) and first_wrong(term, given, thing, most=most) is None
