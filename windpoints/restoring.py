"""Making a run anew from the rests of lines that keeping.py wrote.

The term is made first. Then all Funs, Cells, Points and Parts are made, empty; then the
other things in turn, as each line stands behind those of what it is made of; and then the
empty ones are filled.
"""

from windpoints.heap import HeapFrames, Node
from windpoints.keeping import FIRST_LINE, NOTHING
from windpoints.leaping import Leaper
from windpoints.places import all_places
from windpoints.terms import BOUNDS, FORMS
from windpoints.worths import Cell, Fun, Pair, Part, Point


def made_thing(what, words, parts):
    """Tell the next thing of a term: from what is left of its line's words, or off the end of a list of parts."""
    if what == "part":
        return parts.pop()
    if what == "text":
        return " ".join(words)
    word = words.pop(0)
    if what == "number":
        return int(word)
    if what == "binders":
        return tuple([words.pop(0) for number in range(int(word))])
    if what in BOUNDS:
        return tuple([parts.pop() for number in range(int(word))])
    return word


def made_term(rests):
    """Tell the term of which these are the rests of lines, in paths' order."""
    made = []
    # From the last one on, a term's parts are made when it is come to, its first one last.
    for rest in reversed(rests):
        words = rest.split(" ")
        left = words[2:]
        things = [made_thing(what, left, made) for what in FORMS[words[1]]]
        made.append((words[1], *things))
    return made[0]


def frames_of_row(node):
    """Tell the tuple of a row's frames, outer first."""
    frames = []
    left = node
    while left is not None:
        frames.append(left.frame)
        left = left.outer
    return tuple(frames[::-1])


def made_number(restorer, words):
    return int(words[0])


def made_text(restorer, words):
    return " ".join(words)


def made_truth(restorer, words):
    return words[0] == "yes"


def made_none(restorer, words):
    return None


def made_pair(restorer, words):
    return Pair(restorer.thing(words[0]), restorer.thing(words[1]))


def made_env(restorer, words):
    return {name: restorer.thing(line) for name, line in zip(words[::2], words[1::2])}


def made_wait(restorer, words):
    worths = tuple([restorer.thing(line) for line in words[2:]])
    return ("wait", restorer.thing(words[0]), restorer.thing(words[1]), worths)


def made_mark(restorer, words):
    return ("mark", words[0])


def made_wind(restorer, words):
    return ("wind", int(words[0]), restorer.thing(words[1]), restorer.thing(words[2]))


def made_keep(restorer, words):
    return ("keep", restorer.thing(words[0]))


def made_leap(restorer, words):
    row = restorer.thing(words[0])
    arrival = (words[2],) + tuple([restorer.thing(line) for line in words[3:]])
    if words[1] == NOTHING:
        return ("leap", row, arrival, None)
    at = int(words[1])
    return ("leap", row, arrival, (at, frames_of_row(row)[at]))


def made_row(restorer, words):
    return Node(restorer.thing(words[0]), restorer.thing(words[1]))


MAKERS = {
    "number": made_number,
    "text": made_text,
    "truth": made_truth,
    "none": made_none,
    "pair": made_pair,
    "env": made_env,
    "wait": made_wait,
    "mark": made_mark,
    "wind": made_wind,
    "keep": made_keep,
    "leap": made_leap,
    "row": made_row,
}


def empty_holder(word):
    """Tell a new Fun, Cell, Point or Part by its word, or None by another one."""
    if word == "fun":
        return Fun()
    if word == "cell":
        return Cell()
    if word == "point":
        return Point()
    return Part() if word == "part" else None


class Restorer:
    """The things that were made, by the places of their lines as texts."""

    def __init__(self):
        self.things = {NOTHING: None}

    def thing(self, line):
        return self.things[line]

    def add_places(self, rows):
        """Make the term, put its Places where its lines are, and tell it."""
        terms = [(line, rest) for line, word, rest in rows if word == "term"]
        term = made_term([rest for line, rest in terms])
        for (line, rest), place in zip(terms, all_places(term)):
            self.things[line] = place
        return term

    def add_holders(self, rows):
        for line, word, rest in rows:
            holder = empty_holder(word)
            if holder is not None:
                self.things[line] = holder

    def add_others(self, rows):
        for line, word, rest in rows:
            if word in MAKERS:
                maker = MAKERS[word]
                self.things[line] = maker(self, rest.split(" ")[1:])

    def fill_holders(self, rows):
        for line, word, rest in rows:
            words = rest.split(" ")[1:]
            holder = self.things.get(line)
            if word == "fun":
                holder.place = self.thing(words[0])
                holder.env = self.thing(words[1])
            elif word in ("cell", "point"):
                holder.held = self.thing(words[0])
            elif word == "part":
                holder.held = (words[0], frames_of_row(self.thing(words[1])))


def set_state(machine, restorer, words):
    """Set a machine to where a run was."""
    machine.steps = int(words[1])
    machine.height = int(words[2])
    machine.ids = int(words[3])
    if words[0] == "end":
        machine.end(words[4], restorer.thing(words[5]))
    else:
        machine.begin(restorer.thing(words[4]), restorer.thing(words[5]))
        machine.frames.lay(restorer.thing(words[6]))


def set_told(machine, rows):
    """Set what a run has said, and its row of winders."""
    for line, word, rest in rows:
        if word == "said":
            machine.output.append(rest[len("said "):])
        elif word in ("in", "out"):
            machine.winds.append((word, int(rest.split(" ")[1])))


def restored(rests):
    """Tell (term, machine) of a run that was kept as the rests of lines."""
    rows = [(str(line), rest.split(" ")[0], rest) for line, rest in enumerate(rests, start=FIRST_LINE)]
    restorer = Restorer()
    term = restorer.add_places(rows)
    restorer.add_holders(rows)
    restorer.add_others(rows)
    restorer.fill_holders(rows)
    machine = Leaper(term, None, HeapFrames())
    set_state(machine, restorer, rests[0].split(" "))
    set_told(machine, rows)
    return (term, machine)
