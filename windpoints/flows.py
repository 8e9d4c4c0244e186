"""Flows: which worths may come to each part of a term, told by where they are made.

Origins are gathered in a Net. Its nodes are the term's paths, and some more for what flows
together from many places and on to many:

    ("bound", path, name)   what a name has that is bound by the term at the path
    ("held", path)          what the cells hold that are made at the path
    ("faults",)             what the part of each fault has
    ("takes", tag)          what the part of each take with the tag has
    ("tagged", tag)         what the part of each take and of each mark with the tag has
"""

from windpoints.places import all_places
from windpoints.scopes import scopes_of
from windpoints.terms import check_term
from windpoints.worths import is_whole

INPUT = ("input",)

# Which kinds of term are origins, and by what word.
ORIGINS = {
    "fun": "fun",
    "rec": "fun",
    "cell": "cell",
    "catch": "point",
    "take": "part",
}

# Of which parts the worths are the term's own; of a do it is the last, however many there are.
PASSING_PARTS = {
    "let": (1,),
    "if": (1, 2),
    "guard": (0, 1),
    "wind": (1,),
    "mark": (0,),
    "catch": (0,),
}


class Net:
    """Origins at nodes, the ways on which they flow on, and those that are still to be looked at."""

    def __init__(self, places):
        self.places = {place.path: place for place in places}
        self.lists = {}
        self.ways = {}
        self.asked = {}
        self.waiting = []

    def arrive(self, node, origin):
        """Let an origin be at a node."""
        there = self.lists.setdefault(node, {})
        if origin not in there:
            there[origin] = True
            self.waiting.append((node, origin))

    def lead(self, node, target):
        """Let all that is and will be at a node flow to another one."""
        ways = self.ways.setdefault(node, {})
        if target not in ways:
            ways[target] = True
            for origin in list(self.lists.get(node, {})):
                self.arrive(target, origin)

    def settle(self):
        """Let all flow on until nothing is new."""
        while self.waiting:
            node, origin = self.waiting.pop()
            for target in list(self.ways.get(node, {})):
                self.arrive(target, origin)
            if node in self.asked:
                ask(self, self.asked[node], origin)


def origin_of(place):
    """Tell the origin that is a term's own, or None."""
    if place.word in ORIGINS:
        return (ORIGINS[place.word], place.path)
    if place.word == "op" and place.term[1] == "pair":
        return ("pair", place.path)
    return None


def passing_parts_of(place):
    """Tell the parts of which the worths are the term's own."""
    if place.word == "do":
        return place.parts[-1:]
    return [place.parts[number] for number in PASSING_PARTS.get(place.word, ())]


def asking_word(place):
    """Tell the word of ASKINGS by which a term goes by what its first part has."""
    return place.term[1] if place.word == "op" else place.word


def ask_call(net, place, origin):
    word, path = origin
    function = net.places[path]
    names = function.term[-2]
    handed = place.parts[1:]
    if len(names) == len(handed):
        for name, part in zip(names, handed):
            net.lead(part.path, ("bound", path, name))
        net.lead(function.parts[0].path, place.path)


def ask_go(net, place, origin):
    word, path = origin
    net.lead(place.parts[1].path, path)


def ask_use(net, place, origin):
    word, path = origin
    net.lead(place.parts[1].path, path)
    net.lead(("tagged", net.places[path].term[1]), place.path)


def ask_get(net, place, origin):
    word, path = origin
    net.lead(("held", path), place.path)


def ask_set(net, place, origin):
    word, path = origin
    net.lead(place.parts[1].path, ("held", path))


def ask_first(net, place, origin):
    word, path = origin
    net.lead(net.places[path].parts[0].path, place.path)


def ask_rest(net, place, origin):
    word, path = origin
    net.lead(net.places[path].parts[1].path, place.path)


def ask_input(net, place, origin):
    # A Pair that was handed in has Pairs in it that were handed in.
    net.arrive(place.path, origin)


# What each kind of term, or each op, does with each word of origin that its first part has.
ASKINGS = {
    ("call", "fun"): ask_call,
    ("go", "point"): ask_go,
    ("use", "part"): ask_use,
    ("get", "cell"): ask_get,
    ("set", "cell"): ask_set,
    ("first", "pair"): ask_first,
    ("first", "input"): ask_input,
    ("rest", "pair"): ask_rest,
    ("rest", "input"): ask_input,
}


def ask(net, place, origin):
    """Lay the ways that are due as an origin is in the list of a term's first part."""
    words = (asking_word(place), origin[0])
    if words in ASKINGS:
        asking = ASKINGS[words]
        asking(net, place, origin)


def lay_name(net, place, scope):
    name = place.term[1]
    if name in scope:
        net.lead(("bound", scope[name].path, name), place.path)
    else:
        net.arrive(place.path, INPUT)


def lay_binder(net, place):
    """Lay what the name of a rec, let, guard, catch or take has, whatever the run."""
    if place.word == "rec":
        net.arrive(("bound", place.path, place.term[1]), origin_of(place))
    elif place.word == "let":
        net.lead(place.parts[0].path, ("bound", place.path, place.term[1]))
    elif place.word == "guard":
        net.lead(("faults",), ("bound", place.path, place.term[2]))
    elif place.word == "catch":
        net.arrive(("bound", place.path, place.term[1]), origin_of(place))
    elif place.word == "take":
        net.arrive(("bound", place.path, place.term[2]), origin_of(place))


def lay_gathering(net, place):
    """Lay the ways to and from the nodes at which something flows together."""
    if place.word == "cell":
        net.lead(place.parts[0].path, ("held", place.path))
    elif place.word == "fault":
        net.lead(place.parts[0].path, ("faults",))
    elif place.word == "mark":
        net.lead(("takes", place.term[1]), place.path)
        net.lead(place.parts[0].path, ("tagged", place.term[1]))
    elif place.word == "take":
        net.lead(place.parts[0].path, ("takes", place.term[1]))
        net.lead(place.parts[0].path, ("tagged", place.term[1]))


def lay(net, place, scope):
    """Lay all that holds of a term whatever its parts have."""
    if place.word == "name":
        lay_name(net, place, scope)
    if place.word in ("fun", "rec", "cell", "op") and origin_of(place) is not None:
        net.arrive(place.path, origin_of(place))
    if place.parts:
        net.asked[place.parts[0].path] = place
    for part in passing_parts_of(place):
        net.lead(part.path, place.path)
    lay_binder(net, place)
    lay_gathering(net, place)


def closed_lists(places, table):
    """Tell the dict from each path to the dict of its origins in the least closed table that holds a table."""
    net = Net(places)
    scopes = scopes_of(places)
    for place in places:
        lay(net, place, scopes[place.path])
        for origin in table.get(place.path, []):
            net.arrive(place.path, origin)
    net.settle()
    return {place.path: net.lists.get(place.path, {}) for place in places}


def flows(term):
    """Tell the least closed table of a term."""
    check_term(term)
    lists = closed_lists(all_places(term), {})
    return {path: sorted(list(lists[path])) for path in lists}


def is_path(thing):
    return isinstance(thing, tuple) and all([is_whole(number) for number in thing])


def is_origin_among(thing, origins):
    """Tell whether a thing is one of a dict's origins; only what has the form of one is looked up in it."""
    if not isinstance(thing, tuple) or not thing or not isinstance(thing[0], str):
        return False
    if len(thing) == 2 and not is_path(thing[1]):
        return False
    return len(thing) <= 2 and thing in origins


def is_list_of(thing, origins):
    """Tell whether a thing is a list of a dict's origins, each once."""
    if not isinstance(thing, list) or not all([is_origin_among(held, origins) for held in thing]):
        return False
    return len(set(thing)) == len(thing)


def is_table(places, thing):
    """Tell whether a thing is a table of flows, closed or not."""
    if not isinstance(thing, dict) or len(thing) != len(places):
        return False
    origins = {origin_of(place): True for place in places if origin_of(place) is not None}
    origins[INPUT] = True
    return all([place.path in thing and is_list_of(thing[place.path], origins) for place in places])


def is_closed(term, table):
    """Tell whether a thing, which may be anything, is a closed table of a term."""
    check_term(term)
    places = all_places(term)
    if not is_table(places, table):
        return False
    lists = closed_lists(places, table)
    return all([len(lists[path]) == len(table[path]) for path in lists])
