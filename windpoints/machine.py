"""The rules that all machines share: how a term is begun, and what a worth goes back to.

A machine is about to begin a term (its stage is "begin"), or to hand a worth to the
innermost frame ("back"), or it is at its end ("end"). Worths go back in a loop, never by
calls within calls: one worth may go back through any number of frames.

A frame is a tuple whose first thing tells its kind. A Machine has one kind alone, that of
a term that waits: ("wait", place, env, worths). It knows no leaps: a fault leaves it stuck.
A class below may do otherwise with faults and ops, and have more kinds of terms and frames.
"""

from windpoints.errors import Stuck
from windpoints.places import placed
from windpoints.results import Result
from windpoints.worths import Cell, Fun, op_worth, shown


class Machine:
    """A run of a term, over frames that lie in whatever way their class lets them lie."""

    def __init__(self, term, given, frames):
        self.frames = frames
        self.stage = "begin"
        self.place = placed(term)
        self.env = {"input": given}
        self.kind = "steps"
        self.worth = None
        self.output = []
        self.winds = []
        self.steps = 0
        self.height = 0

    def begin(self, place, env):
        """Let the term at a place be the next one that is begun."""
        self.stage = "begin"
        self.place = place
        self.env = env

    def give(self, worth):
        """Let a worth go back to the innermost frame."""
        self.stage = "back"
        self.worth = worth

    def end(self, kind, worth):
        self.stage = "end"
        self.kind = kind
        self.worth = worth

    def faulted(self, worth):
        """Do what is due at a fault."""
        raise Stuck(worth)

    def op_told(self, word, worths):
        """Tell ("worth", worth) or ("fault", text) of an op."""
        return op_worth(word, worths)

    def act_more(self, place, env, worths):
        """Do what a term of a kind that is not in ACTIONS does with its parts' worths."""
        raise Stuck("no such term")

    def back_to(self, frame):
        """Hand the worth that goes back to a frame of another kind, which is off by now."""
        raise Stuck("no such frame")


def work_out(machine, place, env, worths):
    """Let a term wait for the next of its parts, the ones ahead having told their worths."""
    machine.frames.push(("wait", place, env, worths))
    machine.begin(place.parts[len(worths)], env)


def take_step(machine):
    """Begin the term that is due, and do all up to where the next one would be begun."""
    machine.steps += 1
    machine.height = max(machine.height, machine.frames.many())
    if machine.place.waits > 0:
        work_out(machine, machine.place, machine.env, ())
    else:
        act(machine, machine.place, machine.env, ())
    while machine.stage == "back":
        go_back(machine)


def act(machine, place, env, worths):
    """Do what a term does when all parts for which it waits have told their worths."""
    if place.word in ACTIONS:
        action = ACTIONS[place.word]
        action(machine, place, env, worths)
    else:
        machine.act_more(place, env, worths)


def go_back(machine):
    """Hand the worth that goes back to the innermost frame; with no frames the run is at its end."""
    if machine.frames.many() == 0:
        machine.end("worth", machine.worth)
        return
    frame = machine.frames.pull()
    if frame[0] == "wait":
        word, place, env, worths = frame
        told = worths + (machine.worth,)
        if len(told) < place.waits:
            work_out(machine, place, env, told)
        else:
            act(machine, place, env, told)
    else:
        machine.back_to(frame)


def advance(machine, many):
    """Go on for at most so many steps, and tell whether the run is at its end."""
    left = many
    while left > 0 and machine.stage == "begin":
        take_step(machine)
        left -= 1
    return machine.stage == "end"


def result_of(machine):
    """Tell the Result of what a machine has done till now."""
    # A run that stopped in its midst may still hold the worth that went back last.
    worth = machine.worth if machine.stage == "end" else None
    return Result(machine.kind, worth, machine.output, machine.winds, machine.steps, machine.height)


def act_literal(machine, place, env, worths):
    machine.give(place.term[1])


def act_yes(machine, place, env, worths):
    machine.give(True)


def act_no(machine, place, env, worths):
    machine.give(False)


def act_none(machine, place, env, worths):
    machine.give(None)


def act_name(machine, place, env, worths):
    machine.give(env[place.term[1]])


def act_fun(machine, place, env, worths):
    machine.give(Fun(place, env))


def names_of(function):
    """Tell the names by which a function's body has the worths that it is handed."""
    return function.place.term[-2]


def called_env(function, handed):
    """Tell the environment of a function's body, called with as many worths as it has names."""
    env = dict(function.env)
    if function.place.word == "rec":
        env[function.place.term[1]] = function
    for name, worth in zip(names_of(function), handed):
        env[name] = worth
    return env


def act_call(machine, place, env, worths):
    function = worths[0]
    handed = worths[1:]
    if not isinstance(function, Fun):
        machine.faulted("no function")
    elif len(names_of(function)) != len(handed):
        machine.faulted("how many")
    else:
        machine.begin(function.place.parts[0], called_env(function, handed))


def act_let(machine, place, env, worths):
    machine.begin(place.parts[1], {**env, place.term[1]: worths[0]})


def act_if(machine, place, env, worths):
    if not isinstance(worths[0], bool):
        machine.faulted("no truth")
    else:
        machine.begin(place.parts[1] if worths[0] else place.parts[2], env)


def act_do(machine, place, env, worths):
    machine.begin(place.parts[-1], env)


def act_op(machine, place, env, worths):
    word, told = machine.op_told(place.term[1], list(worths))
    if word == "fault":
        machine.faulted(told)
    else:
        machine.give(told)


def act_cell(machine, place, env, worths):
    machine.give(Cell(worths[0]))


def act_get(machine, place, env, worths):
    if not isinstance(worths[0], Cell):
        machine.faulted("no cell")
    else:
        machine.give(worths[0].held)


def act_set(machine, place, env, worths):
    cell, worth = worths
    if not isinstance(cell, Cell):
        machine.faulted("no cell")
    else:
        cell.held = worth
        machine.give(None)


def act_say(machine, place, env, worths):
    machine.output.append(shown(worths[0]))
    machine.give(None)


ACTIONS = {
    "num": act_literal,
    "text": act_literal,
    "yes": act_yes,
    "no": act_no,
    "none": act_none,
    "name": act_name,
    "fun": act_fun,
    "rec": act_fun,
    "call": act_call,
    "let": act_let,
    "if": act_if,
    "do": act_do,
    "op": act_op,
    "cell": act_cell,
    "get": act_get,
    "set": act_set,
    "say": act_say,
}
