"""Scopes: which term binds each name at each place."""

from windpoints.terms import binders_of


def inner_scope(place, scope):
    """Tell the scope of a term's last part, where all its names are bound."""
    inner = dict(scope)
    for name in binders_of(place.term):
        inner[name] = place
    return inner


def scopes_of(places):
    """Tell the dict from the path of each of a term's Places to its scope.

    A scope is the dict from each name that is bound there to the Place that binds it.
    """
    scopes = {(): {}}
    # A term comes ahead of its parts here, so its own scope is known.
    for place in places:
        scope = scopes[place.path]
        for part in place.parts[:-1]:
            scopes[part.path] = scope
        for part in place.parts[-1:]:
            scopes[part.path] = inner_scope(place, scope)
    return scopes
