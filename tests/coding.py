"""Code held against its form, and done once more, by calls within calls, for the tests to hold the machine against."""

from runner import Ended, size, deep


def heads_of(program):
    """Makers as {c: (side, kind's place, fields)}, defs and tabs in order as lists of (side, kind's place, table)."""
    makers, tables = {}, []
    for place, (side, kind, heads, own) in enumerate(program):
        for maker in heads if side == "made" else own:
            makers[maker[0]] = (side, place, maker[1])
        tables.extend((side, place, table) for table in own)
    return makers, tables


def check_form(test, program, code):
    """Each row of one of the forms, its numbers in their bounds, jumps and doors as the program has them."""
    makers, tables = heads_of(program)
    test.assertIs(type(code), tuple)
    rows, jumps, doors = code
    for part in (rows, jumps, doors):
        test.assertIs(type(part), tuple)
    for told, side in ((jumps, "made"), (doors, "asked")):
        wanted = [table for one, place, table in tables if one == side]
        test.assertEqual([name for name, pairs in told], [table[0] for table in wanted])
        for (name, pairs), table in zip(told, wanted):
            test.assertEqual((type((name, pairs)), type(pairs)), (tuple, tuple))
            test.assertEqual([one for one, at in pairs], [one for one, term in table[-1]])
            for pair in pairs:
                test.assertEqual((type(pair), type(pair[1]), len(pair)), (tuple, int, 2))
                test.assertIn(pair[1], range(len(rows)))
    for row in rows:
        test.assertIs(type(row), tuple)
        check_row(test, program, code, makers, row)


def check_row(test, program, code, makers, row):
    rows, jumps, doors = code
    word = row[0]
    if word in ("keep", "drop", "back", "end"):
        test.assertEqual(row, (word,))
    elif word == "op":
        test.assertIn(row, [("op", "+"), ("op", "-"), ("op", "*")])
    elif word == "make":
        side, place, fields = makers[row[2]]
        test.assertEqual(row, ("make", side, row[2], len(fields)))
    else:
        test.assertTrue(all(type(one) is int for one in row[1:]), msg=row)
        most = max([len(kind[2]) for kind in program if kind[0] == "asked"] + [0])
        bounds = {"num": (10 ** 6,), "name": (10 ** 6,), "zero": (len(rows),), "go": (len(rows),),
                  "jump": (len(jumps), 10 ** 6), "door": (most, 10 ** 6)}[word]
        test.assertEqual(len(row), 1 + len(bounds))
        for number, bound in zip(row[1:], bounds):
            test.assertIn(number, range(bound))


class Late(Exception):
    pass


class OtherMachine:
    """Does code as [24] tells each row; told is (cells, end), the end ("late",) where more jumps than most would come."""

    def __init__(self, program, code):
        self.rows, self.jumps, self.doors = code
        self.askers = {}
        for side, kind, heads, tables in program:
            for maker in tables if side == "asked" else heads:
                self.askers[maker[0]] = [asker[0] for asker in (heads if side == "asked" else tables)]

    def told(self, most):
        self.cells, self.most = [], most
        try:
            return self.cells, ("answer", self.done(0, [], []))
        except Late:
            return self.cells, ("late",)
        except Ended as ended:
            return self.cells, ended.end

    def done(self, at, frame, stack):
        """Goes on from a row to the end or the way back; the topmost thing."""
        while True:
            word, told = self.rows[at][0], self.rows[at][1:]
            at += 1
            if word in ("back", "end"):
                # nothing else may lie there, and the frame is as it began but for what was handed in
                assert len(stack) == 1, stack
                return stack[0]
            if word == "num":
                stack.append(told[0])
            elif word == "name":
                stack.append(frame[told[0]])
            elif word == "op":
                b, a = stack.pop(), stack.pop()
                stack.append({"+": a + b, "-": a - b, "*": a * b}[told[0]] % 10 ** 6)
            elif word == "zero":
                at = told[0] if stack.pop() != 0 else at
            elif word == "go":
                at = told[0]
            elif word == "keep":
                frame.append(stack.pop())
            elif word == "drop":
                frame.pop()
            else:
                many = told[-1]
                things = stack[len(stack) - many:]
                stack[len(stack) - many:] = []
                if word == "make":
                    stack.append(self.made(told[0], told[1], things))
                else:
                    stack.append(self.jumped(word, told[0], stack.pop(), things))

    def made(self, word, maker, things):
        value = (word, maker, tuple(things))
        if size(value) > 200 or deep(value) > 60:
            raise Ended(("great", maker))
        return value

    def jumped(self, word, j, thing, handed):
        if len(self.cells) == self.most:
            raise Late()
        maker = thing[1]
        if word == "jump":
            asker, pairs = self.jumps[j]
            goals = [at for c, at in pairs if c == maker]
        else:
            asker = self.askers[maker][j]
            goals = [at for c, pairs in self.doors if c == maker for f, at in pairs if f == asker]
        self.cells.append((maker, asker))
        if not goals:
            raise Ended(("fault", maker, asker))
        return self.done(goals[0], [*thing[2], *handed], [])
