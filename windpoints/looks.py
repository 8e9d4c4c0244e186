"""Looks: what can be told of a term ahead of its runs."""

from windpoints.places import all_places
from windpoints.terms import binders_of

# Which parts are in last place where their term is; of a do it is the last, however many there are.
LAST_PARTS = {
    "let": (1,),
    "if": (1, 2),
    "guard": (1,),
    "catch": (0,),
    "take": (0,),
}


def last_parts_of(place):
    """Tell the parts that are in last place where a term's own place is."""
    if place.word == "do":
        return place.parts[-1:]
    return [place.parts[number] for number in LAST_PARTS.get(place.word, ())]


def last_places(term):
    """Tell the paths of the calls in last place of a term or of a fun's or rec's body."""
    told = []
    lasts = {(): True}
    # A term comes ahead of its parts here, so it is known of each whether it is in last place.
    for place in all_places(term):
        if place.path in lasts and place.word == "call":
            told.append(place.path)
        if place.word in ("fun", "rec"):
            lasts[place.parts[0].path] = True
        elif place.path in lasts:
            for part in last_parts_of(place):
                lasts[part.path] = True
    return told


class Scope:
    """What is around a place: to each name bound there the path of its catch (None of another binder),
    and how long the path of the nearest fun or rec is (0 where there is none)."""

    def __init__(self, catches, nearest):
        self.catches = catches
        self.nearest = nearest


def inner_scope(place, scope):
    """Tell the Scope of a term's last part, where all its names are bound."""
    catch = place.path if place.word == "catch" else None
    catches = dict(scope.catches)
    for name in binders_of(place.term):
        catches[name] = catch
    nearest = len(place.path) if place.word in ("fun", "rec") else scope.nearest
    return Scope(catches, nearest)


def scopes_of(places):
    """Tell the dict from the path of each of a term's Places to its Scope."""
    scopes = {(): Scope({}, 0)}
    for place in places:
        scope = scopes[place.path]
        for part in place.parts[:-1]:
            scopes[part.path] = scope
        for part in place.parts[-1:]:
            scopes[part.path] = inner_scope(place, scope)
    return scopes


def name_bars(places):
    """Tell the dict from the path of each catch that its own name's places bar to the first of these."""
    scopes = scopes_of(places)
    gone_to = {place.parts[0].path: True for place in places if place.word == "go"}
    bars = {}
    for place in places:
        if place.word == "name":
            scope = scopes[place.path]
            catch = scope.catches.get(place.term[1])
            # Both paths lead to this place, so the longer one is of the inner term.
            if catch is not None and (place.path not in gone_to or scope.nearest > len(catch)):
                bars.setdefault(catch, place.path)
    return bars


def escapes(term):
    """Tell of each catch (path, None) where its frames may be moved, else (path, the first path that bars it)."""
    places = all_places(term)
    bars = name_bars(places)
    takes = [place.path for place in places if place.word == "take"]
    first_take = takes[0] if takes else None
    return [(place.path, bars.get(place.path, first_take)) for place in places if place.word == "catch"]
