"""Where a term's text is wrong, found by trying to read each of its beginnings with ends of many kinds put behind it."""

import re

OPS = {
    "plus": 2, "minus": 2, "times": 2, "less": 2, "same": 2, "joined": 2, "pair": 2, "first": 1, "rest": 1, "kind": 1,
    "written": 1,
}
# n stands for a name, t for a tag, r for a row of names, e for a term.
FORMS = {
    "fun": "re", "rec": "nre", "let": "nee", "if": "eee", "cell": "e", "get": "e", "set": "ee", "say": "e", "fault": "e",
    "guard": "ene", "wind": "eee", "catch": "ne", "go": "ee", "mark": "te", "take": "tne", "use": "ee",
}
NAME = re.compile(r"[a-z][a-z0-9]{0,11}\Z")
TOKEN = re.compile(r'[ \n]*([()]|"[ !#$&-\[\]-~]*"|[a-z0-9-]+)')


class Bad(Exception):
    pass


class Short(Exception):
    pass


class Tokens:
    def __init__(self, tokens):
        self.tokens = tokens
        self.at = 0

    def look(self):
        if self.at == len(self.tokens):
            raise Short
        return self.tokens[self.at]

    def take(self):
        token = self.look()
        self.at += 1
        return token

    def take_this(self, token):
        if self.take() != token:
            raise Bad


def read_name(tokens, others=(), is_tag=False):
    name = tokens.take()
    if not NAME.match(name) or name in others or (name in ("yes", "no", "none") and not is_tag):
        raise Bad
    return name


def read_names(tokens, others):
    tokens.take_this("(")
    names = []
    while tokens.look() != ")":
        if len(names) == 6:
            raise Bad
        names.append(read_name(tokens, others + names))
    tokens.take()
    return tuple(names)


def read_several(tokens, least, most):
    parts = []
    while len(parts) < least or tokens.look() != ")":
        if len(parts) == most:
            raise Bad
        parts.append(read(tokens))
    return tuple(parts)


def read_inside(tokens):
    word = tokens.take()
    if word in OPS:
        return ("op", word, read_several(tokens, OPS[word], OPS[word]))
    if word == "call":
        return ("call", read(tokens), read_several(tokens, 0, 6))
    if word == "do":
        return ("do", read_several(tokens, 1, 12))
    if word not in FORMS:
        raise Bad
    things = []
    for what in FORMS[word]:
        if what == "e":
            things.append(read(tokens))
        elif what == "r":
            things.append(read_names(tokens, list(things)))
        else:
            things.append(read_name(tokens, is_tag=what == "t"))
    return (word, *things)


def read(tokens):
    token = tokens.take()
    if token == "(":
        told = read_inside(tokens)
        tokens.take_this(")")
        return told
    if token[0] == '"':
        return ("text", token[1:-1])
    if re.fullmatch(r"0|-?[1-9][0-9]*", token):
        return ("num", int(token))
    if token in ("yes", "no", "none"):
        return (token,)
    if NAME.match(token):
        return ("name", token)
    raise Bad


def tokens_of(text):
    tokens = []
    at = 0
    rest = text.rstrip(" \n")
    while at < len(rest):
        found = TOKEN.match(rest, at)
        if found is None:
            raise Bad
        tokens.append(found.group(1))
        at = found.end()
    return tokens


def read_whole(text):
    """The term of a text; Bad where it is none, and Short where tokens are lacking alone."""
    tokens = Tokens(tokens_of(text))
    told = read(tokens)
    if tokens.at < len(tokens.tokens):
        raise Bad
    return told


def is_beginning_as_it_is(text):
    try:
        read_whole(text)
    except Bad:
        return False
    except Short:
        pass
    return True


ENDS = ["", '"', "1", "a", "z9", *[word[at:] for word in [*OPS, *FORMS, "call", "do"] for at in range(len(word))]]


def is_beginning(text):
    """Whether some term's text begins with this one: with an end put behind its last token nothing is wrong with it."""
    return any(is_beginning_as_it_is(text + end) for end in ENDS)


def first_bad(text):
    """The place at which a text is wrong, or None where it isn't."""
    low, high = 0, len(text)
    if is_beginning(text):
        try:
            read_whole(text)
        except (Bad, Short):
            return len(text)
        return None
    while high - low > 1:
        middle = (low + high) // 2
        if is_beginning(text[:middle]):
            low = middle
        else:
            high = middle
    return low
