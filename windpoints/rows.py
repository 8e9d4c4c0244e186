"""What is looked for in rows of frames, outer first, that are lists or tuples."""


def is_guard(frame):
    return frame[0] == "wait" and frame[1].word == "guard"


def guard_in(row):
    """Tell (place in the row, frame) of the innermost guard, or None."""
    for at in reversed(range(len(row))):
        if is_guard(row[at]):
            return (at, row[at])
    return None


def mark_in(row, tag):
    """Tell the place of the innermost Mark frame with a tag; None where a Leap frame stands inside it, too."""
    for at in reversed(range(len(row))):
        frame = row[at]
        if frame[0] == "leap":
            return None
        if frame[0] == "mark" and frame[1] == tag:
            return at
    return None


def winders_in(row):
    """Tell the list of (place in the row, frame) of the Wind frames."""
    return [(at, frame) for at, frame in enumerate(row) if frame[0] == "wind"]
