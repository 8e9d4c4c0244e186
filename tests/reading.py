"""Terms from texts, so that the tests can be read: (plus 1 (catch k (go k 5)))."""

import re

WORD_OPS = (
    "plus", "minus", "times", "less", "same", "joined", "pair", "first", "rest", "kind", "written",
    "tried", "wound", "point", "part", "inside",
)
# Of each kind in brackets what stands behind its word: e a term, x a name, r a row of names, s all terms that are left.
FORMS = {
    "fun": "re", "rec": "xre", "call": "es", "let": "xee", "if": "eee", "do": "s", "cell": "e", "get": "e",
    "set": "ee", "say": "e", "fault": "e", "guard": "exe", "wind": "eee", "catch": "xe", "go": "ee", "mark": "xe",
    "take": "xxe", "use": "ee",
}


def nested(tokens):
    """The first thing of a list of tokens, which is taken off it: a text, or a list of such things."""
    token = tokens.pop(0)
    if token != "(":
        return token
    things = []
    while tokens[0] != ")":
        things.append(nested(tokens))
    tokens.pop(0)
    return things


def made_atom(token):
    if token in ("yes", "no", "none"):
        return (token,)
    if token[0] == '"':
        return ("text", token[1:-1])
    if re.fullmatch(r"-?[0-9]+", token):
        return ("num", int(token))
    return ("name", token)


def made_thing(what, thing):
    if what == "e":
        return made(thing)
    return tuple(thing) if what == "r" else thing


def made(thing):
    if isinstance(thing, str):
        return made_atom(thing)
    word, *rest = thing
    if word in WORD_OPS:
        return ("op", word, tuple(made(part) for part in rest))
    form = FORMS[word]
    things = [made_thing(what, rest.pop(0)) for what in form if what != "s"]
    if "s" in form:
        things.append(tuple(made(part) for part in rest))
        rest = []
    assert not rest, thing
    return (word, *things)


def term(text):
    tokens = re.findall(r'"[^"]*"|[()]|[^\s()"]+', text)
    told = made(nested(tokens))
    assert not tokens, text
    return told
