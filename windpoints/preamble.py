"""The functions that stand at the head of each turned text.

In a turned text what is still to do is a function k, of a worth and a node, and a node m.
k stands for the frames inside the innermost one that leaps look at: a Mark, guard, Wind or
Leap frame. The node stands for that frame and all outside it:

    (FRAME . (OUTER . WINDER))      FRAME: (KEY . (BACK . HELD))

OUTER is the node outside the frame, WINDER the innermost winder that is in. KEY is the tag
of a Mark frame, or one of the words below, which are no tags; BACK a function, of a worth
and a node, of what is done with the worth that goes back to the frame; HELD what is done
with a fault, if it is a guard, and (k . (IN . OUT)) of a Wind frame. A winder is

    (ID . (DEPTH . (OUTER . (IN . OUT))))

its id, how many winders are in with it, the node outside its Wind frame, and its first and
third parts as functions of a k and a node.

No function here holds a node, but those of Leap frames: so each serves wherever its frame
is laid, and a Part is (TAG . (k . the chain of its FRAMEs, outer first)).
"""

from windpoints.making import call, choice, fun, let, op, rec

GUARD = ("text", "Guard")
WIND = ("text", "Wind")
# A Leap frame, and what is outside all: no take reaches over these.
STOP = ("text", "Stop")


def frame(key, back, held):
    return op("pair", key, op("pair", back, held))


def node(laid, outer, winder):
    return op("pair", laid, op("pair", outer, winder))


def frame_of(there):
    return op("first", there)


def outer_of(there):
    return op("first", op("rest", there))


def winder_of(there):
    return op("rest", op("rest", there))


def key_of(laid):
    return op("first", laid)


def back_of(laid):
    return op("first", op("rest", laid))


def held_of(laid):
    return op("rest", op("rest", laid))


def id_of(winder):
    return op("first", winder)


def depth_of(winder):
    return op("first", op("rest", winder))


def outside_of(winder):
    return op("first", op("rest", op("rest", winder)))


def in_of(winder):
    return op("first", op("rest", op("rest", op("rest", winder))))


def out_of(winder):
    return op("rest", op("rest", op("rest", op("rest", winder))))


def wound(way, number):
    return op("wound", ("text", way), number)


def laid_inside(key, back, held):
    """The node of a frame that is laid inside the node m."""
    return node(frame(key, back, held), "m", winder_of("m"))


def leap_to(arrival, worth, row):
    """Leap from the node m to another one, and call the arrival with a worth and that node."""
    return call("leap", arrival, worth, row, winder_of("m"), winder_of(row), ("none",))


def back_function():
    return fun(("v", "m"), call(back_of(frame_of("m")), "v", outer_of("m")))


def enter_function():
    """Let the winders of a list go in, the first of them first, then arrive."""
    going_on = fun(("u", "m"), let("u", wound("in", id_of("t")), call("enter", "a", "v", "to", op("rest", "ins"))))
    entering = let("m", outside_of("t"), call(in_of("t"), "back", laid_inside(STOP, going_on, ("none",))))
    return rec("enter", ("a", "v", "to", "ins"), choice(
        op("same", "ins", ("none",)),
        call("a", "v", "to"),
        let("t", op("first", "ins"), entering)))


def leap_function():
    """Let winders from w outwards go out, and those from t outwards be listed, until both are the same one."""
    going_on = fun(("u", "m"), call("leap", "a", "v", "to", "o", "t", "ins"))
    leaving = let("u", wound("out", id_of("w")), let("m", outside_of("w"), let("o", winder_of("m"), call(
        out_of("w"), "back", laid_inside(STOP, going_on, ("none",))))))
    listing = call("leap", "a", "v", "to", "w", winder_of(outside_of("t")), op("pair", "t", "ins"))
    return rec("leap", ("a", "v", "to", "w", "t", "ins"), choice(
        op("same", id_of("w"), id_of("t")),
        call("enter", "a", "v", "to", "ins"),
        choice(op("less", depth_of("w"), depth_of("t")), listing, leaving)))


def guards_function():
    """Leave with a fault for the innermost guard, looked for from g outwards."""
    return rec("guards", ("g", "v", "m"), choice(
        op("same", key_of(frame_of("g")), GUARD),
        let("to", outer_of("g"), leap_to(held_of(frame_of("g")), "v", "to")),
        call("guards", outer_of("g"), "v", "m")))


def fault_function():
    return fun(("v", "m"), call("guards", "m", "v", "m"))


def winder_function():
    """Make a winder with a new id, and call d with the node of its Wind frame and the id."""
    keeping = fun(("u", "m"), call("k", "v", "m"))
    going_back = fun(("v", "m"), let("u", wound("out", "i"), call("c", keeping, "m")))
    parts = op("pair", "a", "c")
    made = op("pair", "i", op("pair", op("plus", depth_of("o"), ("num", 1)), op("pair", "m", parts)))
    wind_frame = frame(WIND, going_back, op("pair", "k", parts))
    return fun(("a", "c", "k", "m", "d"), let(
        "i", op("plus", ("get", ("name", "ids")), ("num", 1)), let(
            "u", ("set", ("name", "ids"), ("name", "i")), let(
                "o", winder_of("m"), let(
                    "w", made, call("d", node(wind_frame, "m", "w"), "i"))))))


def wind_function():
    begun = fun(("m", "i"), let("u", wound("in", "i"), call("b", "back", "m")))
    return fun(("a", "b", "c", "k", "m"), call("a", fun(("v", "m"), call("winder", "a", "c", "k", "m", begun)), "m"))


def seek_function():
    """Look for the Mark frame of a take from n outwards, listing the frames inside it."""
    taken = op("part", op("pair", "tag", op("pair", "k", "inner")))
    return rec("seek", ("n", "inner", "tag", "b", "k", "m"), choice(
        op("same", key_of(frame_of("n")), "tag"),
        leap_to("b", taken, "n"),
        choice(
            op("same", key_of(frame_of("n")), STOP),
            call("fault", ("text", "no mark"), "m"),
            call("seek", outer_of("n"), op("pair", frame_of("n"), "inner"), "tag", "b", "k", "m"))))


def take_function():
    return fun(("tag", "b", "k", "m"), call("seek", "m", ("none",), "tag", "b", "k", "m"))


def lay_function():
    """Lay a list of frames inside the node n, winders made anew, then leap there."""
    laid = call("lay", op("rest", "inner"), node("e", "n", winder_of("n")), "k", "v", "m")
    going_on = fun(("n", "i"), call("lay", op("rest", "inner"), "n", "k", "v", "m"))
    made_anew = let("h", held_of("e"), call(
        "winder", op("first", op("rest", "h")), op("rest", op("rest", "h")), op("first", "h"), "n", going_on))
    return rec("lay", ("inner", "n", "k", "v", "m"), choice(
        op("same", "inner", ("none",)),
        leap_to("k", "v", "n"),
        let("e", op("first", "inner"), choice(op("same", key_of("e"), WIND), made_anew, laid))))


def use_function():
    marked = laid_inside(op("first", "p"), "k", ("none",))
    inner = op("rest", op("rest", "p"))
    return fun(("p", "v", "k", "m"), call("lay", inner, marked, op("first", op("rest", "p")), "v", "m"))


def outermost_node():
    """The node of no frames at all: a guard that ends the run, inside what no take reaches over."""
    winder = op("pair", ("num", 0), op("pair", ("num", 0), ("none",)))
    outside = node(frame(STOP, ("none",), ("none",)), ("none",), "w")
    told = fun(("v", "m"), op("pair", ("text", "worth"), "v"))
    faulted = fun(("v", "m"), op("pair", ("text", "fault"), "v"))
    return let("w", winder, node(frame(GUARD, told, faulted), outside, "w"))


def with_preamble(code):
    """Tell the turned text of which the code, which has k and m unbound, is all but the head."""
    rows = [
        ("ids", ("cell", ("num", 0))),
        ("back", back_function()),
        ("enter", enter_function()),
        ("leap", leap_function()),
        ("guards", guards_function()),
        ("fault", fault_function()),
        ("winder", winder_function()),
        ("wind", wind_function()),
        ("seek", seek_function()),
        ("take", take_function()),
        ("lay", lay_function()),
        ("use", use_function()),
        ("m", outermost_node()),
        ("k", "back"),
    ]
    told = code
    for bound, worth in reversed(rows):
        told = let(bound, worth, told)
    return told
