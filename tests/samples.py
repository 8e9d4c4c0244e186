"""Terms for the tests, made without the program's own helpers."""


def leaf(number):
    return ("num", number)


# Of each kind of term how many parts it has here, and how it is made of them.
MAKERS = {
    "num": (0, lambda: ("num", 5)),
    "text": (0, lambda: ("text", "a b")),
    "yes": (0, lambda: ("yes",)),
    "no": (0, lambda: ("no",)),
    "none": (0, lambda: ("none",)),
    "name": (0, lambda: ("name", "input")),
    "fun": (1, lambda a: ("fun", ("x", "y"), a)),
    "rec": (1, lambda a: ("rec", "f", ("x", "y"), a)),
    "call": (3, lambda a, b, c: ("call", a, (b, c))),
    "let": (2, lambda a, b: ("let", "x", a, b)),
    "if": (3, lambda a, b, c: ("if", a, b, c)),
    "do": (3, lambda a, b, c: ("do", (a, b, c))),
    "op": (2, lambda a, b: ("op", "plus", (a, b))),
    "cell": (1, lambda a: ("cell", a)),
    "get": (1, lambda a: ("get", a)),
    "set": (2, lambda a, b: ("set", a, b)),
    "say": (1, lambda a: ("say", a)),
    "fault": (1, lambda a: ("fault", a)),
    "guard": (2, lambda a, b: ("guard", a, "x", b)),
    "wind": (3, lambda a, b, c: ("wind", a, b, c)),
    "catch": (1, lambda a: ("catch", "k", a)),
    "go": (2, lambda a, b: ("go", a, b)),
    "mark": (1, lambda a: ("mark", "t", a)),
    "take": (1, lambda a: ("take", "t", "k", a)),
    "use": (2, lambda a, b: ("use", a, b)),
}

# Things that are no term, whatever stands around them.
NO_TERMS = [
    [], ["num", 5], "num", "", 5, 0, True, False, None, (), ((),), (5,), (True,), (None,), ("",),
    ("nome", 5), ("Num", 5), ("num ", 5), (["num"], 5), (("num",), 5), ("num", 5, 5), ("num",), ("yes", ()),
]


def leaves(many):
    return [leaf(number) for number in range(many)]


def made(kind, parts):
    maker = MAKERS[kind][1]
    return maker(*parts)


def good(kind):
    return made(kind, leaves(MAKERS[kind][0]))


def with_part(kind, at, thing):
    """A term of a kind with a thing in the place of one of its parts."""
    parts = leaves(MAKERS[kind][0])
    parts[at] = thing
    return made(kind, parts)


def kinds_with_parts():
    return [kind for kind in MAKERS if MAKERS[kind][0] > 0]


def deep(many, inner):
    """A term so many deep around another, in the last of two parts each time."""
    term = inner
    for number in range(many):
        term = ("do", (leaf(number), term))
    return term
