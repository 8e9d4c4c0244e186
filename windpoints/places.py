"""Places: the parts of a term with their paths, laid out once so that a run need not look for them."""

from windpoints.terms import placed_parts

# What waits for its first part alone, and what waits for none though it has parts.
WAITS_FOR_FIRST = ("let", "if", "guard", "wind")
WAITS_FOR_NONE = ("fun", "rec", "catch", "mark", "take")


class Place:
    """A term, its path in the whole term, its parts' Places and how many of them it waits for."""

    def __init__(self, path, term):
        self.path = path
        self.term = term
        self.word = term[0]
        self.parts = []
        self.waits = 0


def waits_for(place):
    """Tell how many of its parts a term works out ahead of what it does with their worths.

    A mark counts as waiting for none: its frame is no frame of a term that goes on, but a Mark frame.
    """
    if place.word in WAITS_FOR_NONE:
        return 0
    if place.word in WAITS_FOR_FIRST:
        return 1
    if place.word == "do":
        return len(place.parts) - 1
    return len(place.parts)


def all_places(term):
    """Tell the list of a term's Places, in paths' order, each with its parts."""
    root = Place((), term)
    told = []
    waiting = [root]
    while waiting:
        place = waiting.pop()
        told.append(place)
        place.parts = [Place(path, part) for path, part in placed_parts(place.path, place.term)]
        place.waits = waits_for(place)
        waiting.extend(place.parts[::-1])
    return told


def placed(term):
    """Tell the Place of a whole term."""
    return all_places(term)[0]
