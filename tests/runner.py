"""Runs and rewriting once more, plainly: by calls within calls, values counted anew each time.

What the tests hold the program's own runs and rewriting against.
"""


class Ended(Exception):
    def __init__(self, end):
        super().__init__(end)
        self.end = end


def size(value):
    return 0 if isinstance(value, int) else 1 + sum(size(part) for part in value[2])


def deep(value):
    return 0 if isinstance(value, int) else 1 + max([deep(part) for part in value[2]] + [0])


def free(term, bound=frozenset()):
    """The names that stand free in a term, in order, some of them again."""
    word = term[0]
    if word == "name":
        return [term[1]] if term[1] not in bound else []
    if word == "let":
        return free(term[2], bound) + free(term[3], bound | {term[1]})
    if word == "case":
        return free(term[1], bound) + free_in_rows(term[3], bound)
    if word == "new":
        return free_in_rows(term[2], bound)
    return [name for one in within(term) for name in free(one, bound)]


def free_in_rows(rows, bound=frozenset()):
    return [name for row in rows for name in free(row[2], bound | set(row[1]))]


def within(term):
    return {
        "name": lambda: (), "num": lambda: (), "op": lambda: term[2:], "zero": lambda: term[1:], "let": lambda: term[2:],
        "make": lambda: term[2], "ask": lambda: (term[1],) + term[3],
        "case": lambda: (term[1],) + tuple(row[2] for row in term[3]), "new": lambda: tuple(row[2] for row in term[2]),
    }[term[0]]()


class Runner:
    """Terms are told with the path on which they stand in a text's row; places go by these."""

    def __init__(self, program):
        self.sides, self.fields, self.params, self.cells, self.places = {}, {}, {}, {}, {}
        row = -1
        for side, kind, heads, tables in program:
            row += 1
            for head in heads + tables:
                names = [name for name, told in head[1]]
                if (head in heads) == (side == "made"):
                    self.sides[head[0]], self.fields[head[0]] = side, names
                else:
                    self.params[head[0]] = names
            for table in tables:
                row += 1
                self.number = 0
                for k, (name, term) in enumerate(table[-1]):
                    self.cells[(name, table[0]) if side == "made" else (table[0], name)] = (term, (row, k))
                    self.find_places(term, (row, k))

    def find_places(self, term, path):
        if term[0] in ("case", "new"):
            self.places[path] = (path[0], self.number)
            self.number += 1
        for k, one in enumerate(within(term)):
            self.find_places(one, path + (k,))

    def run(self, term, most):
        """What a Run tells with each number of steps done: a list of (cells, waiting, end)."""
        self.most, self.told, self.gone, self.waiting, self.tables = most, [], [], 0, {}
        try:
            end = ("answer", self.value(term, {}, ()))
        except Ended as ended:
            end = ended.end
        if end != ("late",):
            self.tell(end)
        return self.told

    def tell(self, end):
        self.told.append((list(self.gone), self.waiting, end))

    def value(self, term, names, path):
        word = term[0]
        if word == "name":
            return names[term[1]]
        if word == "num":
            return term[1]
        if word == "op":
            one = self.value(term[2], names, path + (0,))
            other = self.value(term[3], names, path + (1,))
            return {"+": one + other, "-": one - other, "*": one * other}[term[1]] % 10 ** 6
        if word == "zero":
            k = 1 if self.value(term[1], names, path + (0,)) == 0 else 2
            return self.value(term[1 + k], names, path + (k,))
        if word == "let":
            one = self.value(term[2], names, path + (0,))
            return self.value(term[3], {**names, term[1]: one}, path + (1,))
        if word == "make":
            return self.thing(self.sides[term[1]], term[1], [self.value(a, names, path + (k,)) for k, a in enumerate(term[2])])
        if word == "new":
            place = self.places[path]
            self.tables[place] = (term, path)
            return self.thing("asked", place, [names[name] for name in dict.fromkeys(free_in_rows(term[2]))])
        asked = self.value(term[1], names, path + (0,))
        if word == "ask":
            handed = [self.value(a, names, path + (k,)) for k, a in enumerate(term[3], start=1)]
            return self.asked(asked, term[2], handed)
        found = [k for k, row in enumerate(term[3]) if row[0] == asked[1]]
        self.step((asked[1], self.places[path]), found)
        row = term[3][found[0]]
        return self.back(row[2], {**names, **dict(zip(row[1], asked[2]))}, path + (1 + found[0],))

    def thing(self, word, name, parts):
        value = (word, name, tuple(parts))
        if size(value) > 200 or deep(value) > 60:
            raise Ended(("great", name))
        return value

    def asked(self, asked, asker, handed):
        cell = (asked[1], asker)
        if isinstance(asked[1], str):
            self.step(cell, cell in self.cells)
            term, path = self.cells[cell]
            return self.back(term, dict(zip(self.fields[asked[1]] + self.params[asker], [*asked[2], *handed])), path)
        table, path = self.tables[asked[1]]
        found = [k for k, row in enumerate(table[2]) if row[0] == asker]
        self.step(cell, found)
        row = table[2][found[0]]
        names = dict(zip(dict.fromkeys(free_in_rows(table[2])), asked[2]))
        return self.back(row[2], {**names, **dict(zip(row[1], handed))}, path + (found[0],))

    def step(self, cell, found):
        self.tell(None)
        if len(self.gone) == self.most:
            raise Ended(("late",))
        self.gone.append(cell)
        self.waiting += 1
        if not found:
            raise Ended(("fault",) + cell)

    def back(self, term, names, path):
        value = self.value(term, names, path)
        self.waiting -= 1
        return value


class Rewriter:
    """Terms of flat programs, changed at one spot after another."""

    def __init__(self, program):
        self.told = Runner(program)

    def rewritten(self, term):
        while True:
            sort, what = self.change(term)
            if sort == "end":
                return what
            if sort == "value":
                return ("answer", self.value(term))
            if sort == "next":
                return ("next",) + what
            term = what

    def value(self, term):
        if term[0] == "num":
            return term[1]
        return (self.told.sides[term[1]], term[1], tuple(self.value(one) for one in term[2]))

    def change(self, term):
        """("value", None) of a value's term, ("end", an end), ("next", (cell, term)) or ("then", term)."""
        word, inside = term[0], within(term)
        for k, one in enumerate(inside):
            if word == "zero" and k > 0 or word == "let" and k > 0:
                break
            sort, what = self.change(one)
            if sort == "end":
                return sort, what
            if sort == "next":
                return sort, (what[0], put(term, k, what[1]))
            if sort == "then":
                return sort, put(term, k, what)
        if word == "num":
            return "value", None
        if word == "make":
            value = self.value(term)
            return ("end", ("great", term[1])) if size(value) > 200 or deep(value) > 60 else ("value", None)
        if word == "op":
            one, other = inside[0][1], inside[1][1]
            return "then", ("num", {"+": one + other, "-": one - other, "*": one * other}[term[1]] % 10 ** 6)
        if word == "zero":
            return "then", inside[1] if inside[0][1] == 0 else inside[2]
        if word == "let":
            return "then", swapped(term[3], {term[1]: term[2]})
        cell = (term[1][1], term[2])
        if cell not in self.told.cells:
            return "end", ("fault",) + cell
        names = self.told.fields[cell[0]] + self.told.params[cell[1]]
        return "next", (cell, swapped(self.told.cells[cell][0], dict(zip(names, term[1][2] + term[3]))))


def put(term, k, other):
    """The plain term with another as the k-th one in it."""
    terms = list(within(term))
    terms[k] = other
    return with_within(term, terms)


def with_within(term, terms):
    word = term[0]
    if word in ("op", "let"):
        return term[:2] + tuple(terms)
    if word == "zero":
        return (word,) + tuple(terms)
    if word == "make":
        return (word, term[1], tuple(terms))
    if word == "ask":
        return (word, terms[0], term[2], tuple(terms[1:]))
    return term


def swapped(term, terms):
    if term[0] == "name":
        return terms.get(term[1], term)
    return with_within(term, [swapped(one, terms) for one in within(term)])
