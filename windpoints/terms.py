"""Terms: what they are, their parts by paths, and the names in them.

Terms are walked with a list of what is still to look at, never by calls within
calls: terms may lie deeper within one another than calls may.
"""

from windpoints.errors import NoName, NoPath, NoTerm
from windpoints.worths import OPS, is_whole

FIGURES = "0123456789"
LETTERS = "abcdefghijklmnopqrstuvwxyz"
NAME_SIGNS = "abcdefghijklmnopqrstuvwxyz0123456789"
MOST_NAME_SIGNS = 12

# The numbers of the first and last sign of texts, and of those between that are
# barred: the quote, the percent sign and the backslash.
FIRST_SIGN = 32
LAST_SIGN = 126
BARRED_SIGNS = (34, 37, 92)

# What stands behind the word of each kind of term. A binder is a name that the
# term binds in its last part; all that binds anything binds it there.
FORMS = {
    "num": ("number",),
    "text": ("text",),
    "yes": (),
    "no": (),
    "none": (),
    "name": ("name",),
    "fun": ("binders", "part"),
    "rec": ("binder", "binders", "part"),
    "call": ("part", "handed parts"),
    "let": ("binder", "part", "part"),
    "if": ("part", "part", "part"),
    "do": ("row parts",),
    "op": ("word", "op parts"),
    "cell": ("part",),
    "get": ("part",),
    "set": ("part", "part"),
    "say": ("part",),
    "fault": ("part",),
    "guard": ("part", "binder", "part"),
    "wind": ("part", "part", "part"),
    "catch": ("binder", "part"),
    "go": ("part", "part"),
    "mark": ("tag", "part"),
    "take": ("tag", "binder", "part"),
    "use": ("part", "part"),
}

# How many things at least and at most stand in each thing that is a tuple of several.
BOUNDS = {
    "binders": (0, 6),
    "handed parts": (0, 6),
    "row parts": (1, 12),
    "op parts": (1, 2),
}


def is_name(thing):
    """Tell whether a thing is a name, or a tag, which has the same form."""
    if not isinstance(thing, str) or not 1 <= len(thing) <= MOST_NAME_SIGNS:
        return False
    return thing[0] in LETTERS and all([sign in NAME_SIGNS for sign in thing])


def is_text_sign(sign):
    number = ord(sign)
    return FIRST_SIGN <= number <= LAST_SIGN and number not in BARRED_SIGNS


def is_text(thing):
    return isinstance(thing, str) and all([is_text_sign(sign) for sign in thing])


def is_as_told(what, thing):
    """Tell whether a thing in a term is what its form says, as far as that can be seen of it alone."""
    if what == "number":
        return is_whole(thing)
    if what == "text":
        return is_text(thing)
    if what in ("name", "tag"):
        return is_name(thing)
    if what == "word":
        return isinstance(thing, str) and thing in OPS
    if what in BOUNDS:
        least, most = BOUNDS[what]
        return isinstance(thing, tuple) and least <= len(thing) <= most
    # Parts are looked at by their own paths, and binders all together.
    return True


def binders_of(term):
    """Tell the tuple of names that a term binds in its last part."""
    names = ()
    for what, thing in zip(FORMS[term[0]], term[1:]):
        if what == "binder":
            names = names + (thing,)
        elif what == "binders":
            names = names + thing
    return names


def parts_of(term):
    """Tell the list of a term's parts, as they are numbered."""
    parts = []
    for what, thing in zip(FORMS[term[0]], term[1:]):
        if what == "part":
            parts.append(thing)
        elif what in ("handed parts", "row parts", "op parts"):
            parts.extend(thing)
    return parts


def is_of_a_kind(thing):
    """Tell whether a thing is a tuple of a kind of term, and of as many things as that has."""
    if not isinstance(thing, tuple) or not thing:
        return False
    word = thing[0]
    return isinstance(word, str) and word in FORMS and len(thing) == 1 + len(FORMS[word])


def has_good_binders(term):
    names = binders_of(term)
    return all([is_name(name) for name in names]) and len(set(names)) == len(names)


def is_term_but_for_parts(thing):
    """Tell whether a thing is a term, whatever stands where its parts should."""
    if not is_of_a_kind(thing):
        return False
    if not all([is_as_told(what, held) for what, held in zip(FORMS[thing[0]], thing[1:])]):
        return False
    if thing[0] == "op" and len(thing[2]) != OPS[thing[1]]:
        return False
    return has_good_binders(thing)


def placed_parts(path, term):
    """Tell the list of (path, part) of a term's parts, the term standing at the path handed in."""
    return [(path + (number,), part) for number, part in enumerate(parts_of(term))]


def check_parts(term):
    """Refuse what is no term, whatever its names."""
    waiting = [((), term)]
    while waiting:
        path, thing = waiting.pop()
        if not is_term_but_for_parts(thing):
            raise NoTerm(path)
        waiting.extend(placed_parts(path, thing)[::-1])


def scoped_parts(path, term, bound):
    """Tell the list of (path, part, bound) of a term's parts, bound being the names bound there."""
    scoped = [(place, part, bound) for place, part in placed_parts(path, term)]
    if scoped:
        place, part, outer = scoped.pop()
        scoped.append((place, part, outer + binders_of(term)))
    return scoped


def unbound_places(term):
    """Tell the list of (path, name) of the names that nothing in a term binds, as paths goes."""
    places = []
    waiting = [((), term, ())]
    while waiting:
        path, part, bound = waiting.pop()
        if part[0] == "name" and part[1] not in bound:
            places.append((path, part[1]))
        waiting.extend(scoped_parts(path, part, bound)[::-1])
    return places


def check_term(term, *, names=("input",)):
    """Refuse what is no term with NoTerm, and a name neither bound nor among names with NoName."""
    check_parts(term)
    for path, name in unbound_places(term):
        if name not in names:
            raise NoName(path, name)


def paths(term):
    """Tell all paths of a term, each ahead of its parts' ones, the parts in turn."""
    told = []
    waiting = [((), term)]
    while waiting:
        path, part = waiting.pop()
        told.append(path)
        waiting.extend(placed_parts(path, part)[::-1])
    return told


def part_at(term, path):
    """Tell the term that stands at a path."""
    part = term
    for number in path:
        parts = parts_of(part)
        if not is_whole(number) or not 0 <= number < len(parts):
            raise NoPath(path)
        part = parts[number]
    return part


def free_names(term):
    """Tell the names that stand in a term unbound, rising, each once."""
    return sorted({name for path, name in unbound_places(term)})
