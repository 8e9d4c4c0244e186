"""Results: what is told of a run."""


class Result:
    """How a run ended, or where it stopped: kind is "worth", "fault" or "steps"."""

    def __init__(self, kind, worth, output, winds, steps, height):
        self.kind = kind
        self.worth = worth
        self.output = list(output)
        self.winds = list(winds)
        self.steps = steps
        self.height = height
