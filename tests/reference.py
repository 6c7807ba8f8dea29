"""Programs looked through once more, by calls within calls, for the tests to hold the looker against."""


class Amiss(Exception):
    pass


def want(holds, word, row):
    if not holds:
        raise Amiss(word, row)


class Reference:
    def __init__(self, program):
        self.program = program
        self.rows = []
        for kind in program:
            self.rows.append((kind, None))
            self.rows.extend((kind, table) for table in kind[3])

    def kind(self, name):
        return [kind for kind in self.program if kind[1] == name][0]

    def is_kind(self, name):
        return name == "number" or name in [kind[1] for kind in self.program]

    def makers(self):
        return {one[0]: (kind[1], one[1]) for kind in self.program
                for one in (kind[2] if kind[0] == "made" else kind[3])}

    def askers(self):
        return {one[0]: (kind[1], one[1], one[2]) for kind in self.program
                for one in (kind[2] if kind[0] == "asked" else kind[3])}

    def side(self, name):
        return "number" if name == "number" else self.kind(name)[0]

    def told(self):
        try:
            self.look_kinds()
            self.look_heads()
            self.look_cells()
        except Amiss as amiss:
            return amiss.args
        return True

    def look_kinds(self):
        names = []
        for row, (kind, table) in enumerate(self.rows):
            if table is None:
                want(kind[1] not in names, "twice", row)
                names.append(kind[1])

    def look_heads(self):
        gone = []
        for whole in (True, False):
            for row, (kind, table) in enumerate(self.rows):
                if whole is (table is None):
                    is_maker = (kind[0] == "made") is whole
                    for head in kind[2] if whole else [table]:
                        want((is_maker, head[0]) not in gone, "twice", row)
                        gone.append((is_maker, head[0]))
                        self.look_pairs(head[1], row)
                        want(is_maker or self.is_kind(head[2]), "unknown", row)

    def look_pairs(self, pairs, row):
        for k, (name, kind) in enumerate(pairs):
            want(name not in [pair[0] for pair in pairs[:k]], "twice", row)
            want(self.is_kind(kind), "unknown", row)

    def look_cells(self):
        for row, (kind, table) in enumerate(self.rows):
            for k, (name, term) in enumerate(table[-1] if table else ()):
                known = self.makers() if kind[0] == "made" else self.askers()
                want(name in known and known[name][0] == kind[1], "unknown", row)
                want(name not in [other for other, cell in table[-1][:k]], "twice", row)
                pairs = known[name][1]
                want(not {pair[0] for pair in pairs} & {pair[0] for pair in table[1]}, "clash", row)
                result = table[2] if kind[0] == "made" else known[name][2]
                want(self.look(term, dict(pairs + table[1]), row) == result, "kind", row)

    def look(self, term, bound, row):
        return getattr(self, "look_" + term[0])(bound, row, *term[1:])

    def look_name(self, bound, row, name):
        want(name in bound, "unknown", row)
        return bound[name]

    def look_num(self, bound, row, number):
        return "number"

    def look_op(self, bound, row, sign, a, b):
        want(self.look(a, bound, row) == "number", "kind", row)
        want(self.look(b, bound, row) == "number", "kind", row)
        return "number"

    def look_zero(self, bound, row, a, b, c):
        want(self.look(a, bound, row) == "number", "kind", row)
        kind = self.look(b, bound, row)
        want(self.look(c, bound, row) == kind, "kind", row)
        return kind

    def look_let(self, bound, row, name, a, b):
        kind = self.look(a, bound, row)
        want(name not in bound, "twice", row)
        return self.look(b, {**bound, name: kind}, row)

    def look_make(self, bound, row, maker, terms):
        want(maker in self.makers(), "unknown", row)
        kind, fields = self.makers()[maker]
        self.look_handed(bound, row, fields, terms)
        return kind

    def look_ask(self, bound, row, a, asker, terms):
        kind = self.look(a, bound, row)
        want(asker in self.askers() and self.askers()[asker][0] == kind, "unknown", row)
        self.look_handed(bound, row, self.askers()[asker][1], terms)
        return self.askers()[asker][2]

    def look_handed(self, bound, row, pairs, terms):
        want(len(pairs) == len(terms), "count", row)
        for (name, kind), term in zip(pairs, terms):
            want(self.look(term, bound, row) == kind, "kind", row)

    def look_case(self, bound, row, a, result, rows):
        kind = self.look(a, bound, row)
        want(self.side(kind) == "made", "side", row)
        want(self.is_kind(result), "unknown", row)
        self.look_rows(bound, row, rows, {c: (fields, result) for c, (own, fields) in self.makers().items() if own == kind})
        return result

    def look_new(self, bound, row, kind, rows):
        want(kind != "number" and self.is_kind(kind), "unknown", row)
        want(self.side(kind) == "asked", "side", row)
        self.look_rows(bound, row, rows, {f: (params, to) for f, (own, params, to) in self.askers().items() if own == kind})
        return kind

    def look_rows(self, bound, row, rows, known):
        for k, (name, names, term) in enumerate(rows):
            want(name in known, "unknown", row)
            want(name not in [other[0] for other in rows[:k]], "twice", row)
            want(len(names) == len(known[name][0]), "count", row)
            inside = dict(bound)
            for told, (field, kind) in zip(names, known[name][0]):
                want(told not in inside, "twice", row)
                inside[told] = kind
            want(self.look(term, inside, row) == known[name][1], "kind", row)
