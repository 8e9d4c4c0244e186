"""Turned texts: terms of the lesser language in which each call is handed what is still to do.

The code of a term has the names k and m unbound, by which it has what is still to do
(preamble.py tells their form). So the code of a part goes on with what its own term's code
lets k be. Codes are made from the inner terms outwards, so that none has to be looked into.

The names that a term binds are renamed, so that they are none of those that the codes use.
"""

from windpoints.making import call, choice, fun, let, of_kind, op, rec, row_of
from windpoints.places import all_places
from windpoints.preamble import GUARD, laid_inside, leap_to, with_preamble
from windpoints.terms import binders_of, check_term


def tell(worth):
    """The code of telling a worth."""
    return call("k", worth, "m")


def fault(text):
    return call("fault", ("text", text), "m")


def numbered(codes):
    """The names that the worths of so many parts have in their term's code."""
    return ["v" + str(number) for number in range(len(codes))]


def in_turn(codes, names, then):
    """The code of working out parts in turn, and going on with their worths by these names."""
    told = then
    for code, bound in reversed(list(zip(codes, names))):
        told = let("k", fun((bound, "m"), told), code)
    return told


def turned_atom(term, codes, names):
    return tell(term)


def turned_name(term, codes, names):
    return tell(names[term[1]])


def handed_worths(many):
    """The terms that tell so many worths of the chain a, in turn."""
    told = []
    rest = "a"
    for number in range(many):
        told.append(op("first", rest))
        rest = op("rest", rest)
    return told


def checked_body(term, codes, names):
    """The body of a function, which is handed how many worths there are and their chain, as no call may ask it."""
    bound = tuple([names[name] for name in term[-2]])
    # All names are bound at once: lets within lets would make the text far deeper.
    inner = fun(bound, codes[0])
    worths = handed_worths(len(bound))
    return choice(op("same", "n", ("num", len(bound))), call(inner, *worths), fault("how many"))


def turned_fun(term, codes, names):
    return tell(fun(("n", "a", "k", "m"), checked_body(term, codes, names)))


def turned_rec(term, codes, names):
    return tell(rec(names[term[1]], ("n", "a", "k", "m"), checked_body(term, codes, names)))


def turned_call(term, codes, names):
    bound = numbered(codes)
    handed = bound[1:]
    called = call("v0", ("num", len(handed)), row_of(handed), "k", "m")
    return in_turn(codes, bound, choice(of_kind("v0", "fun"), called, fault("no function")))


def turned_let(term, codes, names):
    return in_turn(codes[:1], [names[term[1]]], codes[1])


def turned_if(term, codes, names):
    chosen = choice("v0", codes[1], codes[2])
    return in_turn(codes[:1], ["v0"], choice(of_kind("v0", "truth"), chosen, fault("no truth")))


def turned_do(term, codes, names):
    return in_turn(codes[:-1], numbered(codes[:-1]), codes[-1])


def turned_op(term, codes, names):
    bound = numbered(codes)
    tried = op("tried", ("text", term[1]), row_of(bound))
    told = choice(op("first", "r"), tell(op("rest", "r")), call("fault", op("rest", "r"), "m"))
    return in_turn(codes, bound, let("r", tried, told))


def turned_plain(term, codes, names):
    """The code of a cell or say, which takes all worths as the lesser machine does."""
    return in_turn(codes, ["v0"], tell((term[0], ("name", "v0"))))


def turned_of_cell(term, codes, names):
    """The code of a get or set."""
    bound = numbered(codes)
    told = tell((term[0],) + tuple([("name", worth) for worth in bound]))
    return in_turn(codes, bound, choice(of_kind("v0", "cell"), told, fault("no cell")))


def turned_fault(term, codes, names):
    return let("k", "fault", codes[0])


def under(key, held, code):
    """The code of a part under a frame that leaps look at, and which goes on with its term's k."""
    return let("m", laid_inside(key, "k", held), let("k", "back", code))


def turned_guard(term, codes, names):
    return under(GUARD, fun((names[term[2]], "m"), codes[1]), codes[0])


def turned_mark(term, codes, names):
    return under(("text", term[1]), ("none",), codes[0])


def turned_wind(term, codes, names):
    parts = [fun(("k", "m"), code) for code in codes]
    return call("wind", parts[0], parts[1], parts[2], "k", "m")


def turned_catch(term, codes, names):
    return let(names[term[1]], op("point", op("pair", "k", "m")), codes[0])


def turned_go(term, codes, names):
    told = let("p", op("inside", "v0"), leap_to(op("first", "p"), "v1", op("rest", "p")))
    return in_turn(codes, numbered(codes), choice(of_kind("v0", "point"), told, fault("no point")))


def turned_take(term, codes, names):
    body = fun((names[term[2]], "m"), let("k", "back", codes[0]))
    return call("take", ("text", term[1]), body, "k", "m")


def turned_use(term, codes, names):
    told = call("use", op("inside", "v0"), "v1", "k", "m")
    return in_turn(codes, numbered(codes), choice(of_kind("v0", "part"), told, fault("no part")))


TURNS = {
    "num": turned_atom,
    "text": turned_atom,
    "yes": turned_atom,
    "no": turned_atom,
    "none": turned_atom,
    "name": turned_name,
    "fun": turned_fun,
    "rec": turned_rec,
    "call": turned_call,
    "let": turned_let,
    "if": turned_if,
    "do": turned_do,
    "op": turned_op,
    "cell": turned_plain,
    "get": turned_of_cell,
    "set": turned_of_cell,
    "say": turned_plain,
    "fault": turned_fault,
    "guard": turned_guard,
    "wind": turned_wind,
    "catch": turned_catch,
    "go": turned_go,
    "mark": turned_mark,
    "take": turned_take,
    "use": turned_use,
}


def renaming(places):
    """Tell the dict from each name in a term to its name in the codes: none but input keeps its own."""
    names = {"input": "input"}
    for place in places:
        for bound in binders_of(place.term):
            names.setdefault(bound, "x" + str(len(names)))
    return names


def turned(term):
    """Tell the lesser term that with input tells the pair of "worth" or "fault" and the worth of a term's run."""
    check_term(term)
    places = all_places(term)
    names = renaming(places)
    codes = {}
    for place in reversed(places):
        turn = TURNS[place.word]
        codes[place.path] = turn(place.term, [codes[part.path] for part in place.parts], names)
    return with_preamble(codes[()])
