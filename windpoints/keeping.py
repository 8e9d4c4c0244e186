"""Writing down all that a run keeps, as rests of lines.

Each thing has a line of its own: a word that tells its kind, then what it is made of, with
blanks between. A thing is named there by the place of its line, and a NOTHING stands for none.

What can't be changed, and is the same wherever it is the same, has one line however often it
stands there: atoms, pairs, environments, frames, and rows of frames, each line behind those
of the things it is made of. Funs, Cells, Points and Parts have a line each; they may hold one
another in any way, so their lines are left empty first and filled in at last.

Pairs, and frames outside one another, are walked with a list, never by calls within calls.
"""

from windpoints.places import all_places
from windpoints.terms import BOUNDS, FORMS
from windpoints.worths import Cell, Fun, Pair, Point, kind_of

NOTHING = "-"
# The first of the lines behind the one that tells how many they are.
FIRST_LINE = 1


def term_rest(place):
    """Tell the rest of the line of one place of a term: all of it but its parts."""
    words = ["term", place.word]
    for what, thing in zip(FORMS[place.word], place.term[1:]):
        if what in BOUNDS:
            words.append(str(len(thing)))
            words.extend(thing if what == "binders" else ())
        elif what != "part":
            words.append(str(thing))
    return " ".join(words)


def rows_within(node):
    """Tell the Nodes of which the rows stand in a Node's own line."""
    inner = [node.outer]
    if node.frame[0] == "leap":
        inner.append(node.frame[1])
    return [row for row in inner if row is not None]


class Writer:
    """The rests of lines, and the place of the line of each thing that has one."""

    def __init__(self):
        self.rests = []
        self.lines = {}
        self.unfilled = []

    def add_rest(self, rest):
        """Add a line, and tell its place."""
        self.rests.append(rest)
        return FIRST_LINE + len(self.rests) - 1

    def fill(self, line, rest):
        self.rests[line - FIRST_LINE] = rest

    def line_of(self, words):
        """Tell the line of something that is wholly told by a tuple of words."""
        if words not in self.lines:
            self.lines[words] = self.add_rest(" ".join([str(word) for word in words]))
        return self.lines[words]

    def place_line(self, place):
        return self.lines[("place", place.path)]

    def alone_line(self, worth):
        """Tell the line of a worth that is no Pair."""
        kind = kind_of(worth)
        if kind in ("number", "text"):
            return self.line_of((kind, worth))
        if kind == "truth":
            return self.line_of((kind, "yes" if worth else "no"))
        if kind == "none":
            return self.line_of((kind,))
        if worth not in self.lines:
            self.lines[worth] = self.add_rest("")
            self.unfilled.append(worth)
        return self.lines[worth]

    def worth_line(self, worth):
        told = []
        # What waits is a worth, or says that the last two lines are those of a Pair's parts.
        waiting = [("worth", worth)]
        while waiting:
            what, thing = waiting.pop()
            if what == "pair":
                rest = told.pop()
                first = told.pop()
                told.append(self.line_of(("pair", first, rest)))
            elif isinstance(thing, Pair):
                waiting.append(("pair", None))
                waiting.append(("worth", thing.rest))
                waiting.append(("worth", thing.first))
            else:
                told.append(self.alone_line(thing))
        return told[0]

    def env_line(self, env):
        words = ("env",)
        for name in sorted(list(env)):
            words = words + (name, self.worth_line(env[name]))
        return self.line_of(words)

    def frame_line(self, frame):
        """Tell the line of a frame; the row to which a Leap frame leads has its line by then."""
        if frame[0] == "wait":
            word, place, env, worths = frame
            lines = tuple([self.worth_line(worth) for worth in worths])
            return self.line_of(("wait", self.place_line(place), self.env_line(env)) + lines)
        if frame[0] == "wind":
            word, number, place, env = frame
            return self.line_of(("wind", number, self.place_line(place), self.env_line(env)))
        if frame[0] == "keep":
            return self.line_of(("keep", self.worth_line(frame[1])))
        if frame[0] == "leap":
            word, row, arrival, entering = frame
            at = NOTHING if entering is None else entering[0]
            return self.line_of(("leap", self.known_row_line(row), at) + self.arrival_words(arrival))
        return self.line_of(frame)

    def arrival_words(self, arrival):
        """Tell the words of what is done where a leap arrives."""
        if arrival[0] == "begin":
            word, place, env = arrival
            return ("begin", self.place_line(place), self.env_line(env))
        word, worth = arrival
        return (word, self.worth_line(worth))

    def known_row_line(self, node):
        """Tell the line of a row that has one."""
        return NOTHING if node is None else self.lines[node]

    def row_line(self, top):
        """Tell the line of the row of which a Node is the innermost."""
        waiting = [] if top is None else [top]
        while waiting:
            node = waiting[-1]
            unknown = [row for row in rows_within(node) if row not in self.lines]
            if unknown:
                waiting.extend(unknown)
            else:
                waiting.pop()
                self.lines[node] = self.line_of(("row", self.frame_line(node.frame), self.known_row_line(node.outer)))
        return self.known_row_line(top)

    def frames_line(self, frames):
        """Tell the line of the row of a Part's frames."""
        line = NOTHING
        for frame in frames:
            line = self.line_of(("row", self.frame_line(frame), line))
        return line

    def holder_rest(self, worth):
        """Tell the rest of the line of a Fun, Cell, Point or Part."""
        if isinstance(worth, Fun):
            return f"fun {self.place_line(worth.place)} {self.env_line(worth.env)}"
        if isinstance(worth, Cell):
            return f"cell {self.worth_line(worth.held)}"
        if isinstance(worth, Point):
            return f"point {self.row_line(worth.held)}"
        tag, frames = worth.held
        return f"part {tag} {self.frames_line(frames)}"

    def fill_all(self):
        """Fill in the lines that were left empty; more of these may come by it."""
        while self.unfilled:
            worth = self.unfilled.pop()
            self.fill(self.lines[worth], self.holder_rest(worth))


def add_term(writer, term):
    """Add a line for each place of a term, in paths' order."""
    for place in all_places(term):
        writer.lines[("place", place.path)] = writer.add_rest(term_rest(place))


def state_rest(writer, machine):
    """Tell the rest of the line that tells where a run is: about to begin a term, or at its end."""
    counts = f"{machine.steps} {machine.height} {machine.ids}"
    if machine.stage == "end":
        return f"end {counts} {machine.kind} {writer.worth_line(machine.worth)}"
    place = writer.place_line(machine.place)
    return f"begin {counts} {place} {writer.env_line(machine.env)} {writer.row_line(machine.frames.top)}"


def rests_kept(term, machine):
    """Tell the rests of the lines of all that a run of a term, over a heap, keeps."""
    writer = Writer()
    state = writer.add_rest("")
    add_term(writer, term)
    writer.fill(state, state_rest(writer, machine))
    writer.fill_all()
    for text in machine.output:
        writer.add_rest("said " + text)
    for way, number in machine.winds:
        writer.add_rest(f"{way} {number}")
    return writer.rests
