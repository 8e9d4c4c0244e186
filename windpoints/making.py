"""How terms are put together. A text stands for the name of which it is the text."""


def as_term(thing):
    return ("name", thing) if isinstance(thing, str) else thing


def as_terms(things):
    return tuple([as_term(thing) for thing in things])


def op(word, *parts):
    return ("op", word, as_terms(parts))


def call(function, *parts):
    return ("call", as_term(function), as_terms(parts))


def fun(names, body):
    return ("fun", names, as_term(body))


def rec(own, names, body):
    return ("rec", own, names, as_term(body))


def let(bound, worth, body):
    return ("let", bound, as_term(worth), as_term(body))


def choice(test, yes, no):
    return ("if", as_term(test), as_term(yes), as_term(no))


def of_kind(thing, kind):
    """The term that tells whether a thing is of a kind, by the word of the op kind."""
    return op("same", op("kind", thing), ("text", kind))


def row_of(things):
    """The term that tells the chain of a list of things."""
    told = ("none",)
    for thing in reversed(things):
        told = op("pair", thing, told)
    return told
