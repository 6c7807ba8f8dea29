"""Programs of the form by seeded chance, and from texts without cross rows, for the tests."""

from samples import KINDS, NAMES, any_term, pick
from sideturn.reader import read


def any_fields(chance):
    return tuple((pick(chance, NAMES), pick(chance, KINDS)) for k in range(chance.randrange(4)))


def any_kind(chance):
    """A kind of the form alone, of either side."""
    def cells():
        return tuple((pick(chance, NAMES), any_term(chance, 3)) for k in range(chance.randrange(3)))

    def maker():
        return (pick(chance, NAMES), any_fields(chance))

    def asker():
        return (pick(chance, NAMES), any_fields(chance), pick(chance, KINDS))

    def several(one):
        return tuple(one() for k in range(chance.randrange(4)))

    if chance.randrange(2):
        return ("made", pick(chance, NAMES), several(maker), several(lambda: asker() + (cells(),)))
    return ("asked", pick(chance, NAMES), several(asker), several(lambda: maker() + (cells(),)))


def any_program(chance):
    return tuple(any_kind(chance) for k in range(chance.randrange(5)))


def program_of(text):
    """The program of a text that is written without its cross rows.

    Each kind is read alone, where none is due.
    """
    kinds = []
    for row in text.split("\n") if text else []:
        if row.split(" ")[0] in ("made", "asked"):
            kinds.append([])
        kinds[-1].append(row)
    return tuple(read("\n".join(rows))[0] for rows in kinds)


class Grown:
    """A program that is let by, of kinds, makers and askers by chance, with inner tables or without.

    Where names are few, fields, params and other names of values are often called alike.
    """

    def __init__(self, chance, with_tables=True, few_names=False):
        self.chance = chance
        self.with_tables = with_tables
        self.few_names = few_names
        self.kinds = [(pick(chance, ("made", "asked")), "pqrst"[k]) for k in range(1 + chance.randrange(4))]
        self.makers = {name: self.heads(name, "m") for side, name in self.kinds}
        self.askers = {name: [head + (self.kind(),) for head in self.heads(name, "f")] for side, name in self.kinds}
        self.fresh = 0

    def kind(self):
        return pick(self.chance, [name for side, name in self.kinds] + ["number"])

    def heads(self, kind, letter):
        told = []
        for k in range(self.chance.randrange(4)):
            pairs = [(self.head_name(kind, letter, j), self.kind()) for j in range(self.chance.randrange(3))]
            told.append((kind + letter + "abcde"[k], tuple(pairs)))
        return told

    def head_name(self, kind, letter, j):
        if not self.few_names:
            return letter + kind + "abcde"[j]
        return ("abc" if (letter == "m") == (kind in "prt") else "xyz")[j]

    def new_names(self, pairs, bound):
        letters = "abcdefghijklmnopqrstuvwxyz"
        told = []
        for k in range(len(pairs)):
            few = [name for name in "abcxyz" if name not in bound and name not in told]
            if self.few_names and few:
                told.append(pick(self.chance, few))
                continue
            self.fresh += 1
            told.append("v" + "".join(letters[self.fresh // many % 26] for many in (676, 26, 1)))
        return tuple(told)

    def program(self):
        return tuple(self.made(name) if side == "made" else self.asked(name) for side, name in self.kinds)

    def made(self, kind):
        makers = self.makers[kind]
        return ("made", kind, tuple(makers), tuple(
            asker + (self.cells([(maker[0], maker[1] + asker[1], asker[2]) for maker in makers]),)
            for asker in self.askers[kind]
        ))

    def asked(self, kind):
        askers = self.askers[kind]
        return ("asked", kind, tuple(askers), tuple(
            maker + (self.cells([(asker[0], maker[1] + asker[1], asker[2]) for asker in askers]),)
            for maker in self.makers[kind]
        ))

    def cells(self, wanted):
        self.chance.shuffle(wanted)
        told = [(name, self.term(kind, dict(pairs), 4)) for name, pairs, kind in wanted if self.chance.randrange(6)]
        return tuple((name, term) for name, term in told if term is not None)

    def term(self, kind, bound, deep):
        """A term of this kind, or None where none was found."""
        ways = [self.by_name, self.by_sort]
        if deep > 0:
            ways += [self.by_zero, self.by_let, self.by_ask, self.by_case] + [self.by_sort] * 3
        self.chance.shuffle(ways)
        for way in ways:
            term = way(kind, bound, deep - 1)
            if term is not None:
                return term
        return None

    def terms(self, pairs, bound, deep):
        told = tuple(self.term(kind, bound, deep) for name, kind in pairs) if deep >= 0 or not pairs else (None,)
        return None if None in told else told

    def plain_term(self, kind, deep):
        """A plain closed term of this kind, or None where none was found."""
        with_tables, self.with_tables = self.with_tables, False
        term = self.term(kind, {}, deep)
        self.with_tables = with_tables
        return term

    def asking_terms(self, many):
        """Plain closed terms that are asks, as many as were found."""
        askers = [(kind, head) for kind in self.askers for head in self.askers[kind]]
        terms = []
        for k in range(many if askers else 0):
            kind, (asker, params, result) = pick(self.chance, askers)
            terms.append([self.plain_term(one, 3) for one in [kind] + [param[1] for param in params]])
            terms[-1] = None if None in terms[-1] else ("ask", terms[-1][0], asker, tuple(terms[-1][1:]))
        return [term for term in terms if term is not None]

    def by_name(self, kind, bound, deep):
        names = [name for name in bound if bound[name] == kind]
        return ("name", pick(self.chance, names)) if names else None

    def by_sort(self, kind, bound, deep):
        if kind == "number":
            if deep < 0 or not self.chance.randrange(3):
                return ("num", self.chance.randrange(9))
            return ("op", pick(self.chance, "+-*"), self.term(kind, bound, deep), self.term(kind, bound, deep))
        if self.with_tables and ("asked", kind) in self.kinds and self.chance.randrange(2):
            return ("new", kind, self.rows(self.askers[kind], bound, deep))
        if not self.makers[kind]:
            return None
        maker, fields = pick(self.chance, self.makers[kind])
        terms = self.terms(fields, bound, deep)
        return None if terms is None else ("make", maker, terms)

    def by_zero(self, kind, bound, deep):
        one, two = self.term(kind, bound, deep), self.term(kind, bound, deep)
        return None if one is None or two is None else ("zero", self.term("number", bound, deep), one, two)

    def by_let(self, kind, bound, deep):
        other = self.kind()
        name = self.new_names(((),), bound)[0]
        one, two = self.term(other, bound, deep), self.term(kind, {**bound, name: other}, deep)
        return None if one is None or two is None else ("let", name, one, two)

    def by_ask(self, kind, bound, deep):
        askers = [(name, head) for name in self.askers for head in self.askers[name] if head[2] == kind]
        if not askers:
            return None
        asked, (asker, params, result) = pick(self.chance, askers)
        thing, terms = self.term(asked, bound, deep), self.terms(params, bound, deep)
        return None if thing is None or terms is None else ("ask", thing, asker, terms)

    def by_case(self, kind, bound, deep):
        kinds = [name for side, name in self.kinds if side == "made"]
        if not kinds or not self.with_tables:
            return None
        cased = pick(self.chance, kinds)
        thing = self.term(cased, bound, deep)
        rows = self.rows([(maker, fields, kind) for maker, fields in self.makers[cased]], bound, deep)
        return None if thing is None else ("case", thing, kind, rows)

    def rows(self, wanted, bound, deep):
        told = []
        for name, pairs, kind in wanted if deep >= 0 else []:
            names = self.new_names(pairs, bound)
            inside = {**bound, **dict(zip(names, [pair[1] for pair in pairs]))}
            term = self.term(kind, inside, deep)
            if term is not None and self.chance.randrange(5):
                told.append((name, names, term))
        self.chance.shuffle(told)
        return tuple(told)
