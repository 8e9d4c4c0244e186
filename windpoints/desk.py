"""A desk: rows that are answered one by one, with names that are kept from row to row, and a run.

What is still to do behind a row's worth is told by a frame outside all others, ("row", NAME),
NAME being None where nothing is to be kept. As a Point has that frame too, who goes to it ends
as the row in which it was caught.
"""

from windpoints.errors import NoName, NoRow
from windpoints.heap import HeapFrames
from windpoints.leaping import Leaper, hand_back
from windpoints.looks import escapes, last_places
from windpoints.machine import advance
from windpoints.plain import MOST
from windpoints.reading import NO_NAMES
from windpoints.terms import FIGURES, check_term, is_name
from windpoints.texts import read_term
from windpoints.worths import shown

NOTHING = "-"
MOST_FIGURES = 5


class RowMachine(Leaper):
    """A run of a row's term; keeps is the name by which its end is to be kept, if it is one of a worth."""

    def __init__(self, term, names, name):
        Leaper.__init__(self, term, None, HeapFrames())
        self.env = dict(names)
        self.keeps = None
        self.frames.push(("row", name))

    def back_to(self, frame):
        """Hand the worth that goes back to a frame; outside a row's own there is none, so there the run ends."""
        if frame[0] == "row":
            self.keeps = frame[1]
        else:
            hand_back(self, frame)


class Desk:
    """Names with worths, the run that goes on by the row go, and that of the row last worked out."""

    def __init__(self):
        self.kept = {}
        self.going = None
        self.latest = None
        self.ids = 0

    def say(self, row):
        """Tell the answer to a row."""
        word, blank, rest = row.partition(" ")
        if word in BARE_ROWS and not blank:
            answer_bare = BARE_ROWS[word]
            return answer_bare(self, row)
        if word in ROWS and blank:
            answer = ROWS[word]
            return answer(self, row, rest)
        raise NoRow(row)


def is_kept_name(text):
    """Tell whether a text is a name by which something may be kept."""
    return is_name(text) and text not in NO_NAMES


def read_row_term(desk, text):
    """Tell the term of a row; only the names that are kept may stand in it unbound."""
    term = read_term(text)
    check_term(term, names=list(desk.kept))
    return term


def go_on_with(desk, machine, many):
    """Let a run go on for at most so many steps, keep what is to be kept where it ends, and tell whether it has."""
    was_at_end = machine.stage == "end"
    # The ids that other rows gave in the meantime are not given again.
    machine.ids = desk.ids
    is_at_end = advance(machine, many)
    desk.ids = machine.ids
    desk.latest = machine
    if is_at_end and not was_at_end and machine.keeps is not None:
        desk.kept[machine.keeps] = machine.worth
    return is_at_end


def end_text(machine):
    """Tell the text of a run's end."""
    text = shown(machine.worth)
    return "fault " + text if machine.kind == "fault" else text


def worked_out(desk, text, name):
    """Tell the answer of a row that works its term out and keeps its worth by a name, or keeps none."""
    machine = RowMachine(read_row_term(desk, text), desk.kept, name)
    return end_text(machine) if go_on_with(desk, machine, MOST) else "steps"


def path_text(path):
    return "/" + "/".join([str(number) for number in path])


def lines_text(lines):
    return "\n".join(lines) if lines else NOTHING


def answer_keep(desk, row, rest):
    name, blank, text = rest.partition(" ")
    if not is_kept_name(name) or not blank:
        raise NoRow(row)
    return worked_out(desk, text, name)


def answer_do(desk, row, rest):
    return worked_out(desk, rest, None)


def answer_begin(desk, row, rest):
    machine = RowMachine(read_row_term(desk, rest), desk.kept, None)
    desk.going = machine
    desk.latest = machine
    return "ok"


def is_count(text):
    """Tell whether a text is a number in figures, from 0 on, without a needless 0 and not of too many figures."""
    if not 1 <= len(text) <= MOST_FIGURES or not all([sign in FIGURES for sign in text]):
        return False
    return text[0] != "0" or text == "0"


def answer_go(desk, row, rest):
    if not is_count(rest) or desk.going is None:
        raise NoRow(row)
    return "yes" if go_on_with(desk, desk.going, int(rest)) else "no"


def answer_end(desk, row):
    if desk.going is None:
        raise NoRow(row)
    return end_text(desk.going) if desk.going.stage == "end" else "more"


def answer_said(desk, row):
    return NOTHING if desk.latest is None else lines_text(desk.latest.output)


def answer_winds(desk, row):
    winds = [] if desk.latest is None else desk.latest.winds
    return lines_text([f"{way} {number}" for way, number in winds])


def answer_names(desk, row):
    return " ".join(sorted(list(desk.kept))) if desk.kept else NOTHING


def check_kept(desk, row, name):
    """Refuse what is no name, or none that is kept."""
    if not is_kept_name(name):
        raise NoRow(row)
    if name not in desk.kept:
        raise NoName((), name)


def answer_show(desk, row, rest):
    check_kept(desk, row, rest)
    return shown(desk.kept[rest])


def answer_forget(desk, row, rest):
    check_kept(desk, row, rest)
    del desk.kept[rest]
    return "ok"


def answer_last(desk, row, rest):
    return lines_text([path_text(path) for path in last_places(read_row_term(desk, rest))])


def answer_escapes(desk, row, rest):
    rows = escapes(read_row_term(desk, rest))
    return lines_text([path_text(path) + " " + ("moved" if at is None else path_text(at)) for path, at in rows])


# The rows of one word, and those of a word and more.
BARE_ROWS = {
    "end": answer_end,
    "said": answer_said,
    "winds": answer_winds,
    "names": answer_names,
}
ROWS = {
    "keep": answer_keep,
    "do": answer_do,
    "begin": answer_begin,
    "go": answer_go,
    "show": answer_show,
    "forget": answer_forget,
    "last": answer_last,
    "escapes": answer_escapes,
}
