"""Rows of winders: what goes out and in between two lists of ids, and which are in behind a row."""

from windpoints.worths import is_whole


def in_common(one, two):
    """Tell how many ids, from the outer ones on, two lists have in common."""
    many = 0
    for number, other in zip(one, two):
        if number != other:
            break
        many += 1
    return many


def between(one, two):
    """Tell (outs, ins): what goes out, inner first, and in, outer first, on the way from one list of ids to two."""
    many = in_common(one, two)
    return (one[many:][::-1], two[many:])


def is_winding(thing):
    """Tell whether a thing is the tuple of the text in or out and a whole number."""
    if not isinstance(thing, tuple) or len(thing) != 2:
        return False
    way, number = thing
    return isinstance(way, str) and way in ("in", "out") and is_whole(number)


def left_in(row):
    """Tell the ids that are in behind a row of winders, outer first, or None where it is no row of a run."""
    if not isinstance(row, list):
        return None
    inside = []
    for thing in row:
        if not is_winding(thing):
            return None
        way, number = thing
        if way == "in" and number not in inside:
            inside.append(number)
        elif way == "out" and inside[-1:] == [number]:
            inside.pop()
        else:
            return None
    return inside
