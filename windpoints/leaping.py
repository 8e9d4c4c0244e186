"""The machine of the whole language: winders, points, parts, faults, and the leaps that they make.

Beside the frames of terms that wait there are ("mark", tag), ("wind", id, place, env) of a
winder that is in, ("keep", worth) while a wind's third part is worked out, and
("leap", row, arrival, entering) while a leap works out a winder's part: the row of frames
to which it leads, what is done there, and (at, frame) of the Wind frame in that row that
goes in with the part's worth, or None where the part is of one that went out.

What is done where a leap arrives is ("back", worth), ("begin", place, env) or ("fault", worth).

What it asks of its frames: push, pull and many are of the innermost one. A row is kept
frames, in whatever form: here tells one of those that are there, caught one that a Point
may keep, joined one of those that are there with others inside them, cut one of a row's
outermost ones; lay makes a row those that are there. above tells the frames inside the
outermost ones, guarded and mark_at where the innermost guard and mark are, winders_of the
Wind frames of a row with their places in it, outer first.
"""

from windpoints.machine import Machine
from windpoints.winders import in_common
from windpoints.worths import Part, Point


class Leaper(Machine):
    """A Machine of all kinds of terms."""

    def __init__(self, term, given, frames):
        Machine.__init__(self, term, given, frames)
        self.ids = 0

    def faulted(self, worth):
        """Leave for the innermost guard, or for the end."""
        frames = self.frames
        found = frames.guarded()
        if found is None:
            leap(self, frames.cut(frames.here(), 0), ("fault", worth))
        else:
            at, (word, place, env, worths) = found
            arrival = ("begin", place.parts[1], {**env, place.term[2]: worth})
            leap(self, frames.cut(frames.here(), at), arrival)

    def act_more(self, place, env, worths):
        """Do what a term of a kind that leaps, or that leaps look at, does with its parts' worths."""
        action = LEAPING_ACTIONS[place.word]
        action(self, place, env, worths)

    def back_to(self, frame):
        """Hand the worth that goes back to a frame that leaps look at."""
        hand_back(self, frame)


def next_id(machine):
    machine.ids += 1
    return machine.ids


def ids_of(winders):
    return [frame[1] for at, frame in winders]


def leap(machine, row, arrival):
    """Work out the next winder's part that is due on the way to a row, or arrive there."""
    frames = machine.frames
    outs = frames.winders_of(frames.here())
    ins = frames.winders_of(row)
    many = in_common(ids_of(outs), ids_of(ins))
    if many < len(outs):
        leap_out(machine, row, arrival, outs[-1])
    elif many < len(ins):
        leap_in(machine, row, arrival, ins[many])
    else:
        frames.lay(row)
        arrive(machine, arrival)


def leap_out(machine, row, arrival, leaving):
    at, (word, number, place, env) = leaving
    frames = machine.frames
    machine.winds.append(("out", number))
    frames.lay(frames.cut(frames.here(), at))
    frames.push(("leap", row, arrival, None))
    machine.begin(place.parts[2], env)


def leap_in(machine, row, arrival, entering):
    at, (word, number, place, env) = entering
    frames = machine.frames
    frames.lay(frames.cut(row, at))
    frames.push(("leap", row, arrival, entering))
    machine.begin(place.parts[0], env)


def arrive(machine, arrival):
    if arrival[0] == "back":
        machine.give(arrival[1])
    elif arrival[0] == "begin":
        machine.begin(arrival[1], arrival[2])
    else:
        machine.end("fault", arrival[1])


def act_fault(machine, place, env, worths):
    machine.faulted(worths[0])


def act_guard(machine, place, env, worths):
    machine.give(worths[0])


def act_wind(machine, place, env, worths):
    number = next_id(machine)
    machine.winds.append(("in", number))
    machine.frames.push(("wind", number, place, env))
    machine.begin(place.parts[1], env)


def act_catch(machine, place, env, worths):
    point = Point(machine.frames.caught(place.path))
    machine.begin(place.parts[0], {**env, place.term[1]: point})


def act_go(machine, place, env, worths):
    point, worth = worths
    if not isinstance(point, Point):
        machine.faulted("no point")
    else:
        leap(machine, point.held, ("back", worth))


def act_mark(machine, place, env, worths):
    machine.frames.push(("mark", place.term[1]))
    machine.begin(place.parts[0], env)


def act_take(machine, place, env, worths):
    word, tag, name, body = place.term
    frames = machine.frames
    at = frames.mark_at(tag)
    if at is None:
        machine.faulted("no mark")
    else:
        part = Part((tag, frames.above(at + 1)))
        leap(machine, frames.cut(frames.here(), at + 1), ("begin", place.parts[0], {**env, name: part}))


def renewed(machine, frames):
    """Tell a Part's frames with a new winder in each Wind frame, the outer ones with the lesser ids."""
    told = []
    for frame in frames:
        if frame[0] == "wind":
            word, number, place, env = frame
            told.append((word, next_id(machine), place, env))
        else:
            told.append(frame)
    return tuple(told)


def act_use(machine, place, env, worths):
    part, worth = worths
    if not isinstance(part, Part):
        machine.faulted("no part")
    else:
        tag, frames = part.held
        row = machine.frames.joined((("mark", tag),) + renewed(machine, frames))
        leap(machine, row, ("back", worth))


LEAPING_ACTIONS = {
    "fault": act_fault,
    "guard": act_guard,
    "wind": act_wind,
    "catch": act_catch,
    "go": act_go,
    "mark": act_mark,
    "take": act_take,
    "use": act_use,
}


def back_to_mark(machine, frame):
    machine.give(machine.worth)


def back_to_wind(machine, frame):
    word, number, place, env = frame
    machine.winds.append(("out", number))
    machine.frames.push(("keep", machine.worth))
    machine.begin(place.parts[2], env)


def back_to_keep(machine, frame):
    machine.give(frame[1])


def back_to_leap(machine, frame):
    word, row, arrival, entering = frame
    if entering is not None:
        at, entered = entering
        machine.winds.append(("in", entered[1]))
        machine.frames.lay(machine.frames.cut(row, at + 1))
    leap(machine, row, arrival)


BACKS = {
    "mark": back_to_mark,
    "wind": back_to_wind,
    "keep": back_to_keep,
    "leap": back_to_leap,
}


def hand_back(machine, frame):
    """Do what a frame of one of these kinds does with the worth that goes back to it."""
    back = BACKS[frame[0]]
    back(machine, frame)
