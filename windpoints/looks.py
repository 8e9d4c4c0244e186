"""Looks: what can be told of a term ahead of its runs."""

from windpoints.places import all_places
from windpoints.scopes import scopes_of

# Which parts are in last place where their term is; of a do it is the last, however many there are.
LAST_PARTS = {
    "let": (1,),
    "if": (1, 2),
    "guard": (1,),
    "catch": (0,),
    "take": (0,),
}


def last_parts_of(place):
    """Tell the parts that are in last place where a term's own place is."""
    if place.word == "do":
        return place.parts[-1:]
    return [place.parts[number] for number in LAST_PARTS.get(place.word, ())]


def last_places(term):
    """Tell the paths of the calls in last place of a term or of a fun's or rec's body."""
    told = []
    lasts = {(): True}
    # A term comes ahead of its parts here, so it is known of each whether it is in last place.
    for place in all_places(term):
        if place.path in lasts and place.word == "call":
            told.append(place.path)
        if place.word in ("fun", "rec"):
            lasts[place.parts[0].path] = True
        elif place.path in lasts:
            for part in last_parts_of(place):
                lasts[part.path] = True
    return told


def functions_around(places):
    """Tell the dict from each path to how long the path of the nearest fun or rec around it is, or 0."""
    nearest = {(): 0}
    for place in places:
        for part in place.parts:
            nearest[part.path] = len(place.path) if place.word in ("fun", "rec") else nearest[place.path]
    return nearest


def name_bars(places):
    """Tell the dict from the path of each catch that its own name's places bar to the first of these."""
    scopes = scopes_of(places)
    nearest = functions_around(places)
    gone_to = {place.parts[0].path: True for place in places if place.word == "go"}
    bars = {}
    for place in places:
        binder = scopes[place.path].get(place.term[1]) if place.word == "name" else None
        if binder is not None and binder.word == "catch":
            # Both paths lead to this place, so the longer one is of the inner term.
            if place.path not in gone_to or nearest[place.path] > len(binder.path):
                bars.setdefault(binder.path, place.path)
    return bars


def escapes(term):
    """Tell of each catch (path, None) where its frames may be moved, else (path, the first path that bars it)."""
    places = all_places(term)
    bars = name_bars(places)
    takes = [place.path for place in places if place.word == "take"]
    first_take = takes[0] if takes else None
    return [(place.path, bars.get(place.path, first_take)) for place in places if place.word == "catch"]
