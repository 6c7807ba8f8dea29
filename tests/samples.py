"""Terms of the form by seeded chance, for the tests."""

NAMES = ("a", "b", "c", "d", "x", "y", "z", "k", "kk", "name", "num", "op", "abcdefgh")
KINDS = NAMES + ("number",)


def pick(chance, things):
    return things[chance.randrange(len(things))]


def some_names(chance):
    return tuple(pick(chance, NAMES) for k in range(chance.randrange(4)))


def any_term(chance, deep):
    """A term of the form alone: its names and kinds need not be there."""
    sort = chance.randrange(11) if deep > 0 else chance.randrange(2)
    if sort == 0:
        return ("name", pick(chance, NAMES))
    if sort == 1:
        return ("num", pick(chance, (0, 1, 9, 10, 99, 100000, 999999)))

    def inner():
        return any_term(chance, deep - 1)

    def rows():
        return tuple((pick(chance, NAMES), some_names(chance), inner()) for k in range(chance.randrange(3)))

    def terms():
        return tuple(inner() for k in range(chance.randrange(4)))

    if sort in (2, 3, 4):
        return ("op", "+-*"[sort - 2], inner(), inner())
    if sort == 5:
        return ("zero", inner(), inner(), inner())
    if sort == 6:
        return ("let", pick(chance, NAMES), inner(), inner())
    if sort == 7:
        return ("make", pick(chance, NAMES), terms())
    if sort == 8:
        return ("ask", inner(), pick(chance, NAMES), terms())
    if sort == 9:
        return ("case", inner(), pick(chance, KINDS), rows())
    return ("new", pick(chance, KINDS), rows())
