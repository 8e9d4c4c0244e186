"""Terms made by chance from a number, in which points and parts are caught, kept and gone to in all ways."""

import random

TAGS = ["t", "s", "r"]
OPS = {
    "plus": 2, "minus": 2, "times": 2, "less": 2, "same": 2, "joined": 2, "pair": 2,
    "first": 1, "rest": 1, "kind": 1, "written": 1,
}


class Maker:
    """Makes one term; what the names in scope will have is guessed, so that most terms do something."""

    def __init__(self, seed, parts):
        self.chance = random.Random(seed)
        self.parts = parts
        self.many = 0

    def new_name(self):
        self.many += 1
        return self.chance.choice(["x", "y", "k", "m", "v0", "v", "input", "leap", "x1", "n", "a" + str(self.many)])

    def leaf(self, scope):
        pick = self.chance.random()
        if pick < 0.45:
            return ("num", self.chance.randint(-3, 9))
        if pick < 0.5:
            return ("text", self.chance.choice(["", "a", "in", "b c"]))
        if pick < 0.6:
            return (self.chance.choice(["yes", "no", "none"]),)
        return ("name", self.chance.choice(sorted(scope)))

    def named(self, scope, kind, otherwise):
        """A name that is likely of a kind; else, and now and then all the same, another term."""
        names = sorted(name for name in scope if scope[name] == kind)
        if names and self.chance.random() < 0.97:
            return ("name", self.chance.choice(names))
        return otherwise()

    def term(self, deep, scope):
        if deep <= 0:
            return self.leaf(scope)
        makers = [
            (2, self.leaf_of), (3, self.op), (3, self.do), (3, self.let), (2, self.choice), (1, self.call),
            (1, self.function), (3, self.say), (1, self.cell), (2, self.get), (2, self.set), (1, self.fault),
            (2, self.guard), (4, self.wind), (3, self.catch), (3, self.go), (3, self.mark), (4, self.take),
            (4, self.use), (3, self.again),
        ]
        weights = [weight for weight, maker in makers]
        maker = self.chance.choices([maker for weight, maker in makers], weights)[0]
        return maker(deep - 1, scope)

    def leaf_of(self, deep, scope):
        return self.leaf(scope)

    def op(self, deep, scope):
        word = self.chance.choice(list(OPS) + ["plus", "pair", "pair"])
        return ("op", word, tuple(self.term(deep, scope) for _ in range(OPS[word])))

    def do(self, deep, scope):
        return ("do", tuple(self.term(deep, scope) for _ in range(self.chance.randint(1, 4))))

    def let(self, deep, scope):
        name = self.new_name()
        worth = self.chance.choice([self.term, self.cell, self.function])(deep, scope)
        kind = {"cell": "cell", "fun": "fun", "rec": "fun"}.get(worth[0], "any")
        return ("let", name, worth, self.term(deep, {**scope, name: kind}))

    def choice(self, deep, scope):
        test = self.chance.choice([("yes",), ("no",), self.term(deep, scope)])
        return ("if", test, self.term(deep, scope), self.term(deep, scope))

    def call(self, deep, scope):
        function = self.named(scope, "fun", lambda: self.function(deep, scope))
        return ("call", function, tuple(self.term(deep, scope) for _ in range(self.chance.choice([0, 1, 1, 1, 2]))))

    def function(self, deep, scope):
        names = [self.new_name() for _ in range(self.chance.choice([0, 1, 1, 1, 2]))]
        names = tuple(sorted(set(names)))
        inner = {**scope, **{name: "any" for name in names}}
        if self.chance.random() < 0.7:
            return ("fun", names, self.term(deep, inner))
        own = "own" + str(self.many)
        return ("rec", own, names, self.term(deep, {**inner, own: "fun"}))

    def say(self, deep, scope):
        return ("say", self.term(deep, scope))

    def cell(self, deep, scope):
        return ("cell", self.term(deep, scope))

    def get(self, deep, scope):
        return ("get", self.named(scope, "cell", lambda: self.term(deep, scope)))

    def set(self, deep, scope):
        return ("set", self.named(scope, "cell", lambda: self.term(deep, scope)), self.term(deep, scope))

    def fault(self, deep, scope):
        return ("fault", self.term(deep, scope))

    def guard(self, deep, scope):
        name = self.new_name()
        return ("guard", self.term(deep, scope), name, self.term(deep, {**scope, name: "any"}))

    def wind(self, deep, scope):
        return ("wind", self.term(deep - 1, scope), self.term(deep, scope), self.term(deep - 1, scope))

    def catch(self, deep, scope):
        name = self.new_name()
        body = self.term(deep, {**scope, name: "point"})
        return ("catch", name, body if self.chance.random() < 0.4 else self.kept(name, scope, body))

    def kept(self, name, scope, body):
        """A body that first puts what a name has into a cell, often."""
        cells = sorted(cell for cell in scope if scope[cell] == "cell" and cell != name)
        if cells and self.chance.random() < 0.8:
            return ("do", (("set", ("name", self.chance.choice(cells)), ("name", name)), body))
        return body

    def go(self, deep, scope):
        """Go to what a name has, or to what a cell holds."""
        if "point" not in scope.values() and self.chance.random() < 0.95:
            return self.catch(deep, scope)
        return ("go", self.named(scope, "point", lambda: self.get(deep, scope)), self.term(deep, scope))

    def mark(self, deep, scope):
        return ("mark", self.chance.choice(TAGS), self.term(deep, scope))

    def take(self, deep, scope):
        if not self.parts:
            return self.catch(deep, scope)
        name = self.new_name()
        body = self.term(deep, {**scope, name: "part"})
        return ("take", self.chance.choice(TAGS), name, self.kept(name, scope, body))

    def use(self, deep, scope):
        if "part" not in scope.values() and self.chance.random() < 0.95:
            return self.take(deep, scope)
        return ("use", self.named(scope, "part", lambda: self.get(deep, scope)), self.term(deep, scope))

    def again(self, deep, scope):
        """Go to, or use, what a cell holds, but only a few times, which the cell called rounds counts."""
        rounds = ("op", "plus", (("get", ("name", "rounds")), ("num", 1)))
        kind = ("op", "kind", (("name", "z"),))
        inner = {**scope, "z": "any"}
        gone = (
            "if", ("op", "same", (kind, ("text", "point"))), ("go", ("name", "z"), self.term(deep, inner)),
            ("if", ("op", "same", (kind, ("text", "part"))), ("use", ("name", "z"), self.term(deep, inner)),
             self.leaf(inner)))
        few = ("op", "less", (("get", ("name", "rounds")), ("num", self.chance.randint(2, 9))))
        return ("if", few, ("do", (
            ("set", ("name", "rounds"), rounds), ("let", "z", self.get(deep, scope), gone))), self.term(deep, scope))


def random_term(seed, deep, parts=True):
    """A term with three cells around it, of which one counts rounds; without takes where no parts are asked for."""
    maker = Maker(seed, parts)
    scope = {"input": "any", "held": "cell", "other": "cell", "rounds": "count"}
    body = maker.term(deep, scope)
    if seed % 4:
        body = ("mark", "t", ("mark", "s", ("mark", "r", body)))
    if seed % 3:
        body = ("guard", body, "why", ("op", "pair", (("text", "why"), ("name", "why"))))
    if seed % 5:
        # Behind the body what it kept is gone to again.
        body = ("let", "told", body, ("do", (("say", ("name", "told")), maker.again(2, scope), maker.again(3, scope))))
    return ("let", "rounds", ("cell", ("num", 0)), ("let", "held", ("cell", ("num", 0)), (
        "let", "other", ("cell", ("none",)), body)))
