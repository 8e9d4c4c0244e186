"""Reading terms from texts, sign by sign.

A Reader takes one sign after another and tells of each whether a term's text may still begin
with what it has then taken. So the first one that it doesn't take is where a text is wrong.
"""

from windpoints.terms import BOUNDS, FIGURES, FORMS, LETTERS, MOST_NAME_SIGNS, NAME_SIGNS, is_name, is_text_sign
from windpoints.worths import OPS

BLANKS = " \n"
# What these say as terms can't be told from names.
NO_NAMES = ("yes", "no", "none")
# The kinds of term that don't stand in brackets by their own words.
UNBRACKETED = ("num", "text", "yes", "no", "none", "name", "op")


class Bracket:
    """An open bracket: of what kinds its things are (those beyond the last kind are of that one, too), how many
    there are at least and at most, and those that were read."""

    def __init__(self, word, kinds, least, most):
        self.word = word
        self.kinds = kinds
        self.least = least
        self.most = most
        self.things = []


def root_bracket():
    """Tell the Bracket that stands for the whole text, in which there is one term."""
    return Bracket("root", ("part",), 1, 1)


def new_bracket():
    """Tell the Bracket of a term of which no word was read yet."""
    return Bracket("new", ("word",), 1, 1)


def names_bracket():
    least, most = BOUNDS["binders"]
    return Bracket("names", ("binder",), least, most)


def word_bracket(word):
    """Tell the Bracket of a term by its word."""
    if word in OPS:
        return Bracket(word, ("part",), OPS[word], OPS[word])
    form = FORMS[word]
    # The last thing of a form is a part, or stands for several.
    least, most = BOUNDS.get(form[-1], (1, 1))
    fixed = form[:-1]
    return Bracket(word, fixed + ("part",), len(fixed) + least, len(fixed) + most)


def expected_in(bracket):
    """Tell of what kind the next thing in a Bracket is, or None where nothing but its end may come."""
    many = len(bracket.things)
    if many >= bracket.most:
        return None
    return bracket.kinds[min(many, len(bracket.kinds) - 1)]


def made_of(bracket):
    """Tell what a Bracket comes to when it is shut: a term, or a tuple of names."""
    things = tuple(bracket.things)
    if bracket.word == "names":
        return things
    if bracket.word in OPS:
        return ("op", bracket.word, things)
    if bracket.word == "call":
        return ("call", things[0], things[1:])
    if bracket.word == "do":
        return ("do", things)
    return (bracket.word, *things)


def is_word(token):
    return token in OPS or token in FORMS and token not in UNBRACKETED


def begins_word(token):
    return any([is_word(word) and word.startswith(token) for word in list(FORMS) + list(OPS)])


def begins_number(token):
    figures = token[1:] if token[0] == "-" else token
    if not all([sign in FIGURES for sign in figures]):
        return False
    # A nought may stand alone, but not ahead of other figures nor behind a minus.
    return figures[:1] != "0" or token == "0"


class Reader:
    """What was read of a text: the Brackets that are open, and the token in the midst of which it is, of what kind."""

    def __init__(self):
        self.brackets = [root_bracket()]
        self.token = ""
        self.reads = None

    def takes(self, sign):
        """Take one more sign, or tell False where no term's text begins so."""
        if self.reads == "text":
            return self.takes_in_text(sign)
        if self.reads is not None:
            if sign in NAME_SIGNS:
                return self.lengthens(sign)
            # Behind a word, name or number another one doesn't begin without a blank.
            if sign == "-" or not self.completes():
                return False
        return self.takes_between(sign)

    def takes_in_text(self, sign):
        if sign == '"':
            self.add_thing(("text", self.token))
            return True
        if not is_text_sign(sign):
            return False
        self.token = self.token + sign
        return True

    def takes_between(self, sign):
        """Take a sign that doesn't go on with a token."""
        expected = expected_in(self.brackets[-1])
        if sign in BLANKS:
            return True
        if sign == ")":
            return self.shuts()
        if sign == "(":
            return self.unlocks(expected)
        if expected == "part":
            return self.begins_part(sign)
        return expected in ("word", "binder", "tag") and self.begins(expected, sign)

    def unlocks(self, expected):
        """Take the sign of a new bracket."""
        if expected == "part":
            self.brackets.append(new_bracket())
        elif expected == "binders":
            self.brackets.append(names_bracket())
        return expected in ("part", "binders")

    def shuts(self):
        """Take the sign of a bracket's end."""
        bracket = self.brackets[-1]
        if len(self.brackets) == 1 or len(bracket.things) < bracket.least:
            return False
        self.brackets.pop()
        self.add_thing(made_of(bracket))
        return True

    def begins_part(self, sign):
        """Take the first sign of a term that isn't in brackets."""
        if sign == '"':
            self.reads = "text"
            return True
        return self.begins("atom" if sign in LETTERS else "number", sign)

    def begins(self, kind, sign):
        """Take the first sign of a word, name, tag or number."""
        self.reads = kind
        return self.lengthens(sign)

    def lengthens(self, sign):
        """Take one more sign of a word, name, tag or number."""
        self.token = self.token + sign
        if self.reads == "number":
            return begins_number(self.token)
        if self.reads == "word":
            return begins_word(self.token)
        # A name of as many signs as there may be can't become another one any more.
        is_last = self.reads == "binder" and len(self.token) == MOST_NAME_SIGNS
        return is_name(self.token) and not (is_last and self.token in self.names_here())

    def names_here(self):
        """Tell the names to which the next one that is bound must be unlike."""
        bracket = self.brackets[-1]
        if bracket.word != "names":
            return []
        outer = self.brackets[-2]
        return bracket.things + (outer.things[:1] if outer.word == "rec" else [])

    def completes(self):
        """Let the token, if there is one, be at its end, or tell False where it can't be."""
        token = self.token
        if self.reads == "number":
            if token == "-":
                return False
            self.add_thing(("num", int(token)))
        elif self.reads == "word":
            if not is_word(token):
                return False
            self.reads = None
            self.token = ""
            self.brackets[-1] = word_bracket(token)
        elif self.reads == "binder" and (token in NO_NAMES or token in self.names_here()):
            return False
        elif self.reads == "atom":
            self.add_thing((token,) if token in NO_NAMES else ("name", token))
        elif self.reads is not None:
            self.add_thing(token)
        return True

    def add_thing(self, thing):
        """Put what was read whole into the innermost Bracket."""
        self.reads = None
        self.token = ""
        self.brackets[-1].things.append(thing)

    def is_whole_text(self):
        """Tell whether what was taken is a term's text; nothing more is taken behind that."""
        if self.reads == "text" or not self.completes():
            return False
        return len(self.brackets) == 1 and len(self.brackets[0].things) == 1
