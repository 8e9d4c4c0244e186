"""The lesser machine, for turned texts: no winders, points, parts, guards or faults of its own, but ops for them."""

from windpoints.errors import NoChain
from windpoints.heap import HeapFrames
from windpoints.machine import Machine, advance, result_of
from windpoints.results import Result
from windpoints.worths import OPS, Pair, Part, Point, is_whole, op_worth, unchained

TURNED_MOST = 200000

# OPS and five more, written out: a value here is not made from another one.
LESSER = {
    "plus": 2,
    "minus": 2,
    "times": 2,
    "less": 2,
    "same": 2,
    "joined": 2,
    "pair": 2,
    "first": 1,
    "rest": 1,
    "kind": 1,
    "written": 1,
    "tried": 2,
    "wound": 2,
    "point": 1,
    "part": 1,
    "inside": 1,
}


class LesserMachine(Machine):
    """A Machine with the ops of LESSER."""

    def op_told(self, word, worths):
        """Tell ("worth", worth) or ("fault", text) of an op of LESSER."""
        if word in LESSER_ACTIONS:
            action = LESSER_ACTIONS[word]
            return action(self, *worths)
        return op_worth(word, worths)


def pair_told(machine, first, rest):
    return ("worth", Pair(first, rest))


def tried_told(machine, word, listed):
    if not isinstance(word, str) or word not in OPS:
        return ("fault", "no word")
    try:
        worths = unchained(listed)
    except NoChain:
        return ("fault", "no chain")
    if len(worths) != OPS[word]:
        return ("fault", "how many")
    kind, told = op_worth(word, worths)
    return ("worth", Pair(kind == "worth", told))


def wound_told(machine, way, number):
    if not isinstance(way, str) or way not in ("in", "out"):
        return ("fault", "no way")
    if not is_whole(number):
        return ("fault", "no number")
    machine.winds.append((way, number))
    return ("worth", None)


def point_told(machine, held):
    return ("worth", Point(held))


def part_told(machine, held):
    return ("worth", Part(held))


def inside_told(machine, holder):
    if not isinstance(holder, (Point, Part)):
        return ("fault", "no point")
    return ("worth", holder.held)


LESSER_ACTIONS = {
    "pair": pair_told,
    "tried": tried_told,
    "wound": wound_told,
    "point": point_told,
    "part": part_told,
    "inside": inside_told,
}


def is_end(worth):
    """Tell whether a worth is a pair as turned texts tell at their end."""
    return isinstance(worth, Pair) and isinstance(worth.first, str) and worth.first in ("worth", "fault")


def run_turned(term, given, *, most=TURNED_MOST):
    """Tell the Result of a turned term, input being the worth given, within at most so many steps."""
    machine = LesserMachine(term, given, HeapFrames())
    advance(machine, most)
    result = result_of(machine)
    if result.kind == "worth" and is_end(result.worth):
        end = result.worth
        return Result(end.first, end.rest, result.output, result.winds, result.steps, result.height)
    return result
