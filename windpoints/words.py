"""Words of points: terms for choices, givers and deeds, made of marks, takes and uses.

Each word that something belongs to works its term out inside a mark. What comes back to that
mark is always a function, a report, which is called outside it: so what a report does stands in
the word's own place. Where the term comes to its worth the report tells just that; where it
comes to a choose, give or deed, the take there tells a report that has what was left as a Part.

What all_of has told so far lies in frames and functions, never in cells: so each time that what
was left is gone on with it has its own. All names and tags that are made here begin with q, and
each name is bound in the word that uses it.
"""

from windpoints.making import call, fun, let, op, rec

# The tags of what a choose, a give by its name and a deed by its word belong to.
CHOICES = "qa"
GIVER = "qg"
HANDLER = "qd"

NONE = ("none",)


def marked(tag, term):
    return ("mark", tag, term)


def taken(tag, report):
    """The term that leaves for the mark with a tag with a report, in which qp is the Part that was left."""
    return ("take", tag, "qp", report)


def going_on(thing):
    """The term that goes on with the Part qp."""
    return ("use", ("name", "qp"), thing)


def all_of(term):
    """Tell the term whose worth is the chain of all worths of a term, by all that its chooses choose."""
    # A report is handed qn, which tells the chain of the worths that come behind.
    report = fun(("qn",), op("pair", "qv", call("qn")))
    return call(marked(CHOICES, let("qv", term, report)), fun((), NONE))


def choose(terms):
    """Tell the term in whose place each of some terms is worked out in turn."""
    # The terms are called where they were chosen, in what is gone on with; behind the last one nothing is left here.
    left = ("name", "qn")
    body = call("qn")
    for term in reversed(terms):
        body = call(going_on(fun((), term)), left)
        left = fun((), body)
    return call(taken(CHOICES, fun(("qn",), body)))


def giver(name, term):
    """Tell the term whose worth is a function that tells, call by call, what the term gives by a name."""
    # The cell qc holds how the next call goes on; a report is handed it, and sets it.
    ended = fun((), fun(("qc",), NONE))
    report = fun(("qc",), ("set", ("name", "qc"), ended))
    begun = fun((), marked(GIVER + name, ("do", (term, report))))
    return let("qc", ("cell", begun), fun((), call(call(("get", ("name", "qc"))), "qc")))


def give(name, term):
    """Tell the term that gives a term's worth to the giver of a name."""
    later = ("set", ("name", "qc"), fun((), going_on(NONE)))
    report = fun(("qc",), ("do", (later, ("name", "qv"))))
    return let("qv", term, taken(GIVER + name, report))


def handled(word, name, going, term, handler):
    """Tell the term that works a term out, and for each deed of a word the handler, which has the deed's worth
    by a name and goes on with what was left by calling the name going."""
    resuming = fun(("qv",), call(going_on(("name", "qv")), "qh"))
    handling = rec("qh", (name, "qp"), let(going, resuming, handler))
    return let("qh", handling, call(marked(HANDLER + word, let("qv", term, fun(("qh",), "qv"))), "qh"))


def deed(word, term):
    """Tell the term that hands a term's worth to what handles a word."""
    return let("qv", term, taken(HANDLER + word, fun(("qh",), call("qh", "qv", "qp"))))
