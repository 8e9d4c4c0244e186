"""The rules of flows read off the document one by one, round by round over the whole term, for the tests to compare with."""

from windpoints.terms import part_at, paths

OWN = {"fun": "fun", "rec": "fun", "cell": "cell"}


def parts(term, path):
    """The paths of a term's parts."""
    return [other for other in paths(term) if len(other) == len(path) + 1 and other[:-1] == path]


def bound_names(part):
    """To each name that a term binds how: its place among a function's names, or a word."""
    word = part[0]
    if word in ("fun", "rec"):
        names = {name: at for at, name in enumerate(part[-2])}
        return {**names, part[1]: "own"} if word == "rec" else names
    return {"let": lambda: {part[1]: "let"}, "guard": lambda: {part[2]: "guard"}, "catch": lambda: {part[1]: "catch"},
            "take": lambda: {part[2]: "take"}}.get(word, dict)()


class Rules:
    def __init__(self, term):
        self.paths = paths(term)
        self.terms = {path: part_at(term, path) for path in self.paths}
        self.parts = {path: [] for path in self.paths}
        for path in self.paths[1:]:
            self.parts[path[:-1]].append(path)
        self.table = {path: set() for path in self.paths}

    def of(self, word):
        return [path for path in self.paths if self.terms[path][0] == word]

    def binder(self, path):
        """The path of what binds the name at a path, and how, or None."""
        name = self.terms[path][1]
        for many in reversed(range(len(path))):
            outer = path[:many]
            is_last = path[many] == len(self.parts[outer]) - 1
            if is_last and name in bound_names(self.terms[outer]):
                return outer, bound_names(self.terms[outer])[name]
        return None

    def names_many(self, path):
        return len(self.terms[path][-2])

    def to_name(self, path):
        found = self.binder(path)
        if found is None:
            return {("input",)}
        outer, how = found
        table = self.table
        if how == "own":
            return {("fun", outer)}
        if how == "let":
            return table[self.parts[outer][0]]
        if how == "guard":
            return set().union(*[table[self.parts[fault][0]] for fault in self.of("fault")])
        if how == "catch":
            return {("point", outer)}
        if how == "take":
            return {("part", outer)}
        told = set()
        for call in self.of("call"):
            function, *handed = self.parts[call]
            if ("fun", outer) in table[function] and len(handed) == self.names_many(outer):
                told |= table[handed[how]]
        return told

    def to_call(self, path):
        function, *handed = self.parts[path]
        told = set()
        for word, *rest in self.table[function]:
            if word == "fun" and self.names_many(rest[0]) == len(handed):
                told |= self.table[self.parts[rest[0]][0]]
        return told

    def to_use(self, path):
        told = set()
        for word, *rest in self.table[self.parts[path][0]]:
            if word == "part":
                tag = self.terms[rest[0]][1]
                for other in self.of("mark") + self.of("take"):
                    if self.terms[other][1] == tag:
                        told |= self.table[self.parts[other][0]]
        return told

    def to_get(self, path):
        told = set()
        for origin in self.table[self.parts[path][0]]:
            if origin[0] == "cell":
                told |= self.table[self.parts[origin[1]][0]]
                for other in self.of("set"):
                    if origin in self.table[self.parts[other][0]]:
                        told |= self.table[self.parts[other][1]]
        return told

    def to_half(self, path, at):
        """To first and rest."""
        told = set()
        for origin in self.table[self.parts[path][0]]:
            if origin[0] == "pair":
                told |= self.table[self.parts[origin[1]][at]]
            elif origin == ("input",):
                told.add(origin)
        return told

    def to_mark(self, path):
        told = set(self.table[self.parts[path][0]])
        for other in self.of("take"):
            if self.terms[other][1] == self.terms[path][1]:
                told |= self.table[self.parts[other][0]]
        return told

    def gone_to(self, path, word, origin):
        """The second part of each go, or use, that has an origin in its first part's list."""
        told = set()
        for other in self.of(word):
            if origin in self.table[self.parts[other][0]]:
                told |= self.table[self.parts[other][1]]
        return told

    def to_path(self, path):
        part = self.terms[path]
        word = part[0]
        inner = self.parts[path]
        table = self.table
        if word in OWN:
            return {(OWN[word], path)}
        if word == "op":
            if part[1] == "pair":
                return {("pair", path)}
            return self.to_half(path, ["first", "rest"].index(part[1])) if part[1] in ("first", "rest") else set()
        if word == "catch":
            return table[inner[0]] | self.gone_to(path, "go", ("point", path))
        if word == "take":
            return self.gone_to(path, "use", ("part", path))
        passing = {"let": [1], "if": [1, 2], "do": [-1], "guard": [0, 1], "wind": [1]}
        if word in passing:
            return set().union(*[table[inner[at]] for at in passing[word]])
        rules = {"name": self.to_name, "call": self.to_call, "use": self.to_use, "get": self.to_get,
                 "mark": self.to_mark}
        return rules[word](path) if word in rules else set()

    def told(self):
        changed = True
        while changed:
            changed = False
            for path in self.paths:
                more = self.to_path(path) - self.table[path]
                if more:
                    changed = True
                    self.table[path] = self.table[path] | more
        return {path: sorted(self.table[path]) for path in self.paths}


def plain_flows(term):
    return Rules(term).told()
