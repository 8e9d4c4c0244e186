"""Terms with words made by chance from a number, in the form of plain_words."""

import random

WORDS = ["w", "v", "abcdefghij"]


class Maker:
    def __init__(self, seed):
        self.chance = random.Random(seed)
        self.many = 0

    def new_name(self):
        self.many += 1
        return "x" + str(self.many)

    def leaf(self, scope):
        names = sorted(name for name in scope if scope[name] in ("any", "k"))
        if names and self.chance.random() < 0.5:
            return ("name", self.chance.choice(names))
        return self.chance.choice([("num", self.chance.randint(0, 9)), ("yes",), ("none",), ("text", "a b")])

    def named(self, scope, *kinds):
        names = sorted(name for name in scope if scope[name] in kinds)
        return ("name", self.chance.choice(names)) if names else None

    def term(self, deep, scope):
        if deep <= 0:
            return self.leaf(scope)
        makers = [
            (2, self.op), (2, self.do), (2, self.let), (1, self.choice), (2, self.say), (1, self.set), (1, self.fault),
            (1, self.guard), (3, self.wind), (3, self.all_of), (5, self.choose), (2, self.giver), (3, self.give),
            (3, self.handled), (4, self.deed), (4, self.call),
        ]
        weights = [weight for weight, maker in makers]
        return self.chance.choices([maker for weight, maker in makers], weights)[0](deep - 1, scope)

    def op(self, deep, scope):
        word = self.chance.choice(["plus", "plus", "pair", "pair", "minus", "first"])
        return ("op", word, tuple(self.term(deep, scope) for _ in range(1 if word == "first" else 2)))

    def do(self, deep, scope):
        return ("do", tuple(self.term(deep, scope) for _ in range(self.chance.randint(1, 3))))

    def let(self, deep, scope):
        name = self.new_name()
        if self.chance.random() < 0.3:
            return ("let", name, ("cell", self.term(deep, scope)), self.term(deep, {**scope, name: "cell"}))
        return ("let", name, self.term(deep, scope), self.term(deep, {**scope, name: "any"}))

    def choice(self, deep, scope):
        test = self.chance.choice([("yes",), ("no",), ("op", "less", (self.term(deep, scope), ("num", 5)))])
        return ("if", test, self.term(deep, scope), self.term(deep, scope))

    def say(self, deep, scope):
        return ("say", self.term(deep, scope))

    def set(self, deep, scope):
        cell = self.named(scope, "cell")
        if cell is None:
            return self.let(deep, scope)
        if self.chance.random() < 0.5:
            return ("get", cell)
        return ("set", cell, self.chance.choice([self.term(deep, scope), ("op", "plus", (("get", cell), ("num", 1)))]))

    def fault(self, deep, scope):
        return ("fault", self.term(deep, scope)) if self.chance.random() < 0.4 else self.leaf(scope)

    def guard(self, deep, scope):
        name = self.new_name()
        return ("guard", self.term(deep, scope), name, self.term(deep, {**scope, name: "any"}))

    def wind(self, deep, scope):
        return ("wind", self.chance.randint(10, 99), self.term(deep, scope), self.chance.randint(10, 99))

    def all_of(self, deep, scope):
        return ("all_of", self.term(deep, scope))

    def choose(self, deep, scope):
        return ("choose", tuple(self.term(deep, scope) for _ in range(self.chance.choice([0, 1, 2, 2, 2, 3]))))

    def giver(self, deep, scope):
        name, own = self.new_name(), self.new_name()
        made = ("giver", own, self.term(deep, {**scope, own: "own"}))
        return ("let", name, made, self.term(deep, {**scope, name: "giver"}))

    def give(self, deep, scope):
        own = self.named(scope, "own")
        if own is None:
            return self.giver(deep, scope)
        return ("give", own[1], self.term(deep, scope))

    def handled(self, deep, scope):
        name, going = self.new_name(), self.new_name()
        handler = self.term(deep, {**scope, name: "any", going: "k"})
        return ("handled", self.chance.choice(WORDS), name, going, self.term(deep, scope), handler)

    def deed(self, deep, scope):
        return ("deed", self.chance.choice(WORDS), self.term(deep, scope))

    def call(self, deep, scope):
        if self.chance.random() < 0.5:
            called = self.named(scope, "giver")
            if called is not None:
                return ("call", called, ())
        called = self.named(scope, "k")
        if called is not None:
            return ("call", called, (self.term(deep, scope),))
        name = self.new_name()
        return ("call", ("fun", (name,), self.term(deep, {**scope, name: "any"})), (self.term(deep, scope),))


def random_words(seed, deep):
    """A term within an all_of and handleds of all words, so that little is without what it belongs to."""
    maker = Maker(seed)
    scope = {"input": "any"}
    body = maker.term(deep, scope)
    if seed % 3:
        body = ("all_of", body)
    for word in WORDS if seed % 4 else []:
        name, going = maker.new_name(), maker.new_name()
        handler = ("op", "pair", (("name", name), ("call", ("name", going), (("name", name),))))
        body = ("handled", word, name, going, body, handler)
    return body
