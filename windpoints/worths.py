"""Worths: what terms come to, what the ops make of them, and their texts.

Worths are walked with a list of what is still to look at, never by calls within
calls: pairs may lie deeper within one another than calls may.
"""

from windpoints.errors import NoChain

MOST_SIGNS = 400
MOST_PAIRS = 400
# The least number with more than sixty figures.
TOO_GREAT = 10 ** 60

OPS = {
    "plus": 2,
    "minus": 2,
    "times": 2,
    "less": 2,
    "same": 2,
    "joined": 2,
    "pair": 2,
    "first": 1,
    "rest": 1,
    "kind": 1,
    "written": 1,
}

# The kinds of which two worths without parts can be the same.
SAME_KINDS = ("number", "text", "truth", "none", "cell")


class Pair:
    """Two worths; == where same tells yes, so not even to itself where it holds a Fun."""

    def __init__(self, first, rest):
        self.first = first
        self.rest = rest

    def __eq__(self, other):
        return isinstance(other, Pair) and are_same(self, other)


class Fun:
    """A function: the Place of its fun or rec, and the environment in which it was made."""

    def __init__(self, place=None, env=None):
        self.place = place
        self.env = env


class Cell:
    """A cell of a run and the worth that it holds now; without an own ==, so that it is == to itself alone."""

    def __init__(self, held=None):
        self.held = held


class Point:
    """What was still to do, caught whole; how that is held is each machine's own."""

    def __init__(self, held=None):
        self.held = held


class Part:
    """What was still to do, caught up to a mark; how that is held is each machine's own."""

    def __init__(self, held=None):
        self.held = held


def is_whole(thing):
    return isinstance(thing, int) and not isinstance(thing, bool)


def kind_of(worth):
    """Tell the word that the op kind tells of a worth."""
    if worth is None:
        return "none"
    if isinstance(worth, bool):
        return "truth"
    if isinstance(worth, int):
        return "number"
    if isinstance(worth, str):
        return "text"
    if isinstance(worth, Pair):
        return "pair"
    if isinstance(worth, Fun):
        return "fun"
    if isinstance(worth, Cell):
        return "cell"
    if isinstance(worth, Point):
        return "point"
    return "part"


def are_same_alone(one, two):
    """Tell whether two worths that are not both Pairs are the same."""
    kind = kind_of(one)
    # The kinds are compared first, as Python's 1 == True.
    return kind in SAME_KINDS and kind == kind_of(two) and one == two


def are_same(one, two):
    waiting = [(one, two)]
    while waiting:
        left, right = waiting.pop()
        if isinstance(left, Pair) and isinstance(right, Pair):
            waiting.append((left.rest, right.rest))
            waiting.append((left.first, right.first))
        elif not are_same_alone(left, right):
            return False
    return True


def has_too_many_pairs(worth):
    """Tell whether a worth has more than MOST_PAIRS pairs, counted as often as they stand there."""
    many = 0
    waiting = [worth]
    # It stops at the bound: one pair may stand in a worth far too often to be counted out.
    while waiting and many <= MOST_PAIRS:
        part = waiting.pop()
        if isinstance(part, Pair):
            many += 1
            waiting.append(part.first)
            waiting.append(part.rest)
    return many > MOST_PAIRS


def shown_alone(worth):
    """Tell the text of a worth that is no Pair."""
    kind = kind_of(worth)
    if kind == "number":
        return str(worth)
    if kind == "text":
        return '"' + worth + '"'
    if kind == "truth":
        return "yes" if worth else "no"
    return kind


def shown(worth):
    """Tell a worth's text."""
    pieces = []
    # What waits is a sign or a worth, and says which: a text may be either.
    waiting = [("worth", worth)]
    while waiting:
        what, thing = waiting.pop()
        if what == "sign":
            pieces.append(thing)
        elif isinstance(thing, Pair):
            waiting.append(("sign", ")"))
            waiting.append(("worth", thing.rest))
            waiting.append(("sign", " . "))
            waiting.append(("worth", thing.first))
            waiting.append(("sign", "("))
        else:
            pieces.append(shown_alone(thing))
    return "".join(pieces)


def chain(worths):
    """Tell the pairs of a list of worths, in turn, that end with None."""
    chained = None
    for worth in reversed(worths):
        chained = Pair(worth, chained)
    return chained


def unchained(worth):
    """Tell the list of worths of which chain makes this worth."""
    worths = []
    left = worth
    while isinstance(left, Pair):
        worths.append(left.first)
        left = left.rest
    if left is not None:
        raise NoChain(worth)
    return worths


def are_whole(one, two):
    return is_whole(one) and is_whole(two)


def bounded_number(number):
    if abs(number) >= TOO_GREAT:
        return ("fault", "too great")
    return ("worth", number)


def bounded_text(text):
    if len(text) > MOST_SIGNS:
        return ("fault", "too long")
    return ("worth", text)


def plus_worth(one, two):
    if not are_whole(one, two):
        return ("fault", "no number")
    return bounded_number(one + two)


def minus_worth(one, two):
    if not are_whole(one, two):
        return ("fault", "no number")
    return bounded_number(one - two)


def times_worth(one, two):
    if not are_whole(one, two):
        return ("fault", "no number")
    return bounded_number(one * two)


def less_worth(one, two):
    if not are_whole(one, two):
        return ("fault", "no number")
    return ("worth", one < two)


def same_worth(one, two):
    return ("worth", are_same(one, two))


def joined_worth(one, two):
    if not isinstance(one, str) or not isinstance(two, str):
        return ("fault", "no text")
    return bounded_text(one + two)


def pair_worth(one, two):
    pair = Pair(one, two)
    if has_too_many_pairs(pair):
        return ("fault", "too great")
    return ("worth", pair)


def first_worth(one):
    if not isinstance(one, Pair):
        return ("fault", "no pair")
    return ("worth", one.first)


def rest_worth(one):
    if not isinstance(one, Pair):
        return ("fault", "no pair")
    return ("worth", one.rest)


def kind_worth(one):
    return ("worth", kind_of(one))


def written_worth(one):
    return bounded_text(shown(one))


ACTIONS = {
    "plus": plus_worth,
    "minus": minus_worth,
    "times": times_worth,
    "less": less_worth,
    "same": same_worth,
    "joined": joined_worth,
    "pair": pair_worth,
    "first": first_worth,
    "rest": rest_worth,
    "kind": kind_worth,
    "written": written_worth,
}


def op_worth(word, worths):
    """Tell ("worth", worth) or ("fault", text) of an op's word and as many worths as it has parts."""
    action = ACTIONS[word]
    return action(*worths)
