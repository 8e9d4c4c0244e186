"""Terms with words worked out as the document tells them, without marks, takes and uses, for the tests to compare with.

Here words stand in terms by themselves: ("all_of", e), ("choose", (e, ..)), ("giver", x, e), ("give", x, e),
("handled", word, x, k, e, h), ("deed", word, e); expanded makes terms of them. A wind's first and last part are a say
of a number, so that they can be done at once: ("wind", n, e, n).
"""

from windpoints.words import all_of, choose, deed, give, giver, handled
from windpoints.worths import Pair, chain, op_worth, shown

MOST = 3000


def expanded(term):
    word, *things = term
    if word == "all_of":
        return all_of(expanded(things[0]))
    if word == "choose":
        return choose([expanded(part) for part in things[0]])
    if word == "giver":
        return giver(things[0], expanded(things[1]))
    if word == "give":
        return give(things[0], expanded(things[1]))
    if word == "handled":
        return handled(*things[:3], expanded(things[3]), expanded(things[4]))
    if word == "deed":
        return deed(things[0], expanded(things[1]))
    if word == "wind":
        return ("wind", ("say", ("num", things[0])), expanded(things[1]), ("say", ("num", things[2])))
    return (word, *[expanded_thing(thing) for thing in things])


def expanded_thing(thing):
    if not isinstance(thing, tuple) or not thing:
        return thing
    if isinstance(thing[0], tuple):
        return tuple(expanded(part) for part in thing)
    # A row of names has no word of a kind that has parts at its head here.
    return thing if all(isinstance(part, str) for part in thing) and thing[0][0] == "x" else expanded(thing)


class Fault(Exception):
    pass


class TooLong(Exception):
    pass


class Function:
    """A function, or what a handler's k is: frames that were left, with their handler."""

    def __init__(self, names, body, env, left=None):
        self.names, self.body, self.env, self.left = names, body, env, left


class Giver:
    def __init__(self, term, env):
        self.state = ("begin", term, env)


def written(worth):
    if isinstance(worth, Pair):
        return f"({written(worth.first)} . {written(worth.rest)})"
    if isinstance(worth, (Function, Giver)):
        return "fun"
    return "cell" if isinstance(worth, list) else shown(worth)


class Reckoner:
    """Frames are tuples, outer first, of what each does with the worth that comes back to it."""

    def __init__(self):
        self.frames = ()
        self.output = []
        self.winds = []
        self.ids = 0
        self.todo = None

    def begin(self, term, env):
        self.todo = ("begin", term, env)

    def back(self, worth):
        self.todo = ("back", worth)

    def push(self, *frame):
        self.frames = self.frames + (frame,)

    def leave(self, frame, number):
        self.winds.append(("out", frame[1]))
        self.output.append(str(number))

    def cut(self, many):
        """Leave all frames but so many outer ones, and tell those that were left."""
        left = self.frames[many:]
        for frame in reversed(left):
            if frame[0] == "wind":
                self.leave(frame, frame[3])
        self.frames = self.frames[:many]
        return left

    def lay(self, frames):
        """Go on with frames that were left, with new winders."""
        for frame in frames:
            if frame[0] == "wind":
                self.ids += 1
                frame = ("wind", self.ids, frame[2], frame[3])
            self.push(*frame)
        for frame in self.frames[len(self.frames) - len(frames):]:
            if frame[0] == "wind":
                self.output.append(str(frame[2]))
                self.winds.append(("in", frame[1]))

    def find(self, *head):
        for at in reversed(range(len(self.frames))):
            if self.frames[at][:len(head)] == head:
                return at
        raise Fault("no mark")

    def step(self):
        kind, *things = self.todo
        try:
            if kind == "begin":
                getattr(self, "begin_" + things[0][0])(*things)
            else:
                frame = self.frames[-1]
                self.frames = self.frames[:-1]
                getattr(self, "back_" + frame[0])(frame, *things)
        except Fault as fault:
            self.faulted(fault.args[0])

    def faulted(self, worth):
        for at in reversed(range(len(self.frames))):
            if self.frames[at][0] == "guard":
                word, name, term, env = self.frames[at]
                self.cut(at)
                self.begin(term, {**env, name: worth})
                return
        self.cut(0)
        self.todo = ("fault", worth)

    def run(self, term, given):
        self.begin(term, {"input": given})
        for _ in range(MOST):
            self.step()
            if self.todo[0] == "fault" or (self.todo[0] == "back" and not self.frames):
                kind = "fault" if self.todo[0] == "fault" else "worth"
                return (kind, written(self.todo[1]), self.output, self.winds)
        raise TooLong

    # Plain kinds of terms.

    def begin_num(self, term, env):
        self.back(term[1])

    begin_text = begin_num

    def begin_yes(self, term, env):
        self.back(True)

    def begin_no(self, term, env):
        self.back(False)

    def begin_none(self, term, env):
        self.back(None)

    def begin_name(self, term, env):
        self.back(env[term[1]])

    def begin_fun(self, term, env):
        self.back(Function(term[1], term[2], env))

    def wait(self, term, env, parts, worths=()):
        self.push("wait", term, env, parts, worths)
        self.begin(parts[len(worths)], env)

    def begin_op(self, term, env):
        self.wait(term, env, term[2])

    def begin_call(self, term, env):
        self.wait(term, env, (term[1], *term[2]))

    def begin_do(self, term, env):
        self.wait(term, env, term[1])

    def begin_let(self, term, env):
        self.wait(term, env, (term[2],))

    def begin_if(self, term, env):
        self.wait(term, env, (term[1],))

    def begin_one(self, term, env):
        self.wait(term, env, term[1:])

    begin_say = begin_fault = begin_cell = begin_get = begin_set = begin_one

    def back_wait(self, frame, worth):
        word, term, env, parts, worths = frame
        worths = worths + (worth,)
        if len(worths) < len(parts):
            self.wait(term, env, parts, worths)
        else:
            getattr(self, "do_" + term[0])(term, env, worths)

    def do_op(self, term, env, worths):
        kind, worth = op_worth(term[1], list(worths))
        if kind == "fault":
            raise Fault(worth)
        self.back(worth)

    def do_do(self, term, env, worths):
        self.back(worths[-1])

    def do_let(self, term, env, worths):
        self.begin(term[3], {**env, term[1]: worths[0]})

    def do_if(self, term, env, worths):
        if not isinstance(worths[0], bool):
            raise Fault("no truth")
        self.begin(term[2] if worths[0] else term[3], env)

    def do_say(self, term, env, worths):
        self.output.append(written(worths[0]))
        self.back(None)

    def do_fault(self, term, env, worths):
        raise Fault(worths[0])

    def do_cell(self, term, env, worths):
        self.back([worths[0]])

    def do_get(self, term, env, worths):
        if not isinstance(worths[0], list):
            raise Fault("no cell")
        self.back(worths[0][0])

    def do_set(self, term, env, worths):
        if not isinstance(worths[0], list):
            raise Fault("no cell")
        worths[0][0] = worths[1]
        self.back(None)

    def do_call(self, term, env, worths):
        function, *handed = worths
        if isinstance(function, Giver):
            if handed:
                raise Fault("how many")
            self.call_giver(function)
        elif not isinstance(function, Function):
            raise Fault("no function")
        elif len(function.names) != len(handed):
            raise Fault("how many")
        elif function.left is not None:
            self.lay(function.left)
            self.back(handed[0])
        else:
            self.begin(function.body, {**function.env, **dict(zip(function.names, handed))})

    def begin_guard(self, term, env):
        self.push("guard", term[2], term[3], env)
        self.begin(term[1], env)

    def back_guard(self, frame, worth):
        self.back(worth)

    def begin_wind(self, term, env):
        self.output.append(str(term[1]))
        self.ids += 1
        self.winds.append(("in", self.ids))
        self.push("wind", self.ids, term[1], term[3])
        self.begin(term[2], env)

    def back_wind(self, frame, worth):
        self.leave(frame, frame[3])
        self.back(worth)

    # Words.

    def begin_all_of(self, term, env):
        self.push("all", (), ())
        self.begin(term[1], env)

    def back_all(self, frame, worth):
        word, worths, pending = frame
        self.next_choice(worths + (worth,), pending)

    def next_choice(self, worths, pending):
        """Go on with the last of the chooses that have a term left, each told as (frames, env, terms)."""
        if not pending:
            self.back(chain(list(worths)))
            return
        *pending, (left, env, terms) = pending
        more = () if len(terms) == 1 else ((left, env, terms[1:]),)
        self.push("all", worths, tuple(pending) + more)
        self.lay(left)
        self.begin(terms[0], env)

    def begin_choose(self, term, env):
        at = self.find("all")
        left = self.cut(at + 1)
        word, worths, pending = self.frames[-1]
        self.frames = self.frames[:-1]
        self.next_choice(worths, pending + ((left, env, term[1]),) if term[1] else pending)

    def begin_giver(self, term, env):
        giver_made = Giver(term[2], env)
        giver_made.name = term[1]
        self.back(giver_made)

    def call_giver(self, made):
        self.push("giver", made.name, made)
        kind, *things = made.state
        if kind == "begin":
            self.begin(*things)
        elif kind == "left":
            self.lay(things[0])
            self.back(None)
        else:
            self.back(None)

    def back_giver(self, frame, worth):
        frame[2].state = ("ended",)
        self.back(None)

    def begin_give(self, term, env):
        self.wait(term, env, (term[2],))

    def do_give(self, term, env, worths):
        at = self.find("giver", term[1])
        left = self.cut(at + 1)
        self.frames[-1][2].state = ("left", left)
        self.frames = self.frames[:-1]
        self.back(worths[0])

    def begin_handled(self, term, env):
        self.push("handled", term[1], term, env)
        self.begin(term[4], env)

    def back_handled(self, frame, worth):
        self.back(worth)

    def begin_deed(self, term, env):
        self.wait(term, env, (term[2],))

    def do_deed(self, term, env, worths):
        at = self.find("handled", term[1])
        word, name, handler, handler_env = self.frames[at]
        left = self.frames[at:at + 1] + self.cut(at + 1)
        self.frames = self.frames[:-1]
        going = Function(("v",), None, None, left)
        self.begin(handler[5], {**handler_env, handler[2]: worths[0], handler[3]: going})


def reckoned(term, given):
    """(kind, the worth's text, output, row of winders) of a term with words; TooLong where it takes too many steps."""
    return Reckoner().run(term, given)
