"""Texts of terms: written, and read back."""

from windpoints.errors import NoText
from windpoints.reading import NO_NAMES, Reader
from windpoints.terms import FORMS, binders_of


def is_unclear(term):
    """Tell whether a term has a name of its own that its text can't tell from a truth or none."""
    names = term[1:] if term[0] == "name" else binders_of(term)
    return any([name in NO_NAMES for name in names])


def shown_atom(term):
    """Tell the text of a term that stands without brackets, or None of another one."""
    if term[0] == "num":
        return str(term[1])
    if term[0] == "text":
        return '"' + term[1] + '"'
    if term[0] == "name":
        return term[1]
    return term[0] if term[0] in NO_NAMES else None


def pieces_of(term):
    """Tell the list of what stands in a term's brackets behind its word: (True, term) or (False, text)."""
    pieces = []
    for what, thing in zip(FORMS[term[0]], term[1:]):
        if what in ("binder", "tag"):
            pieces.append((False, thing))
        elif what == "binders":
            pieces.append((False, "(" + " ".join(thing) + ")"))
        elif what == "part":
            pieces.append((True, thing))
        elif what != "word":
            pieces.extend([(True, part) for part in thing])
    return pieces


def shown_term(term):
    """Tell a term's text; refused where a name is yes, no or none."""
    told = []
    # What waits is a term or a text, and says which.
    waiting = [(True, term)]
    while waiting:
        is_term, thing = waiting.pop()
        if is_term and is_unclear(thing):
            raise NoText(0)
        text = shown_atom(thing) if is_term else thing
        if text is not None:
            told.append(text)
        else:
            told.append("(" + (thing[1] if thing[0] == "op" else thing[0]))
            waiting.append((False, ")"))
            for piece in reversed(pieces_of(thing)):
                waiting.append(piece)
                waiting.append((False, " "))
    return "".join(told)


def read_term(text):
    """Tell the term of a text; where it is none it is refused, at the first sign with which none begins any more."""
    reader = Reader()
    for at, sign in enumerate(text):
        if not reader.takes(sign):
            raise NoText(at)
    if not reader.is_whole_text():
        raise NoText(len(text))
    return reader.brackets[0].things[0]
