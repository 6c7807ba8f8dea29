"""Terms read from their texts, and written as them.

A row of a text is first made into items: words, and terms where brackets
stood. Reading and writing keep stacks of their own in the place of calls
within calls, as a term may be deeper than Python lets calls go.
"""

from sideturn.errors import NoText
from sideturn.words import is_kind, is_name, is_number


# Within a single row every refusal is of row 0; who reads many rows tells
# the row's true number.
def need(holds):
    if not holds:
        raise NoText(0)


def name_in(item):
    need(isinstance(item, str) and is_name(item))
    return item


def kind_in(item):
    need(isinstance(item, str) and is_kind(item))
    return item


def term_in(item):
    if isinstance(item, tuple):
        return item
    if is_number(item):
        return ("num", int(item))
    return ("name", name_in(item))


def terms_in(items):
    return tuple([term_in(item) for item in items])


def parted(items, sign="|"):
    groups = [[]]
    for item in items:
        if item == sign:
            groups.append([])
        else:
            groups[-1].append(item)
    return groups


def inner_row_in(group):
    need(len(group) >= 3 and group[-2] == ":")
    names = [name_in(item) for item in group[:-2]]
    return (names[0], tuple(names[1:]), term_in(group[-1]))


def inner_rows_in(groups):
    return tuple([inner_row_in(group) for group in groups])


def op_in(sign, items):
    need(len(items) == 2)
    return ("op", sign) + terms_in(items)


def zero_in(word, items):
    need(len(items) == 3)
    return (word,) + terms_in(items)


def let_in(word, items):
    need(len(items) == 3)
    return (word, name_in(items[0])) + terms_in(items[1:])


def make_in(word, items):
    need(len(items) >= 1)
    return (word, name_in(items[0]), terms_in(items[1:]))


def ask_in(word, items):
    need(len(items) >= 2)
    return (word, term_in(items[0]), name_in(items[1]), terms_in(items[2:]))


def case_in(word, items):
    groups = parted(items)
    head = groups[0]
    need(len(head) == 3 and head[1] == "to")
    return (word, term_in(head[0]), kind_in(head[2]), inner_rows_in(groups[1:]))


def new_in(word, items):
    groups = parted(items)
    need(len(groups[0]) == 1)
    return (word, kind_in(groups[0][0]), inner_rows_in(groups[1:]))


BRACKETS = {
    "+": op_in,
    "-": op_in,
    "*": op_in,
    "zero": zero_in,
    "let": let_in,
    "make": make_in,
    "ask": ask_in,
    "case": case_in,
    "new": new_in,
}


def bracket_in(items):
    need(items[0] in BRACKETS)
    return BRACKETS[items[0]](items[0], items[1:])


# A bracket's first word follows it without a blank, and a closing one
# follows the last word so: a blank at either place leaves a word without
# signs, which is no item that any reading takes.
def items_of(row):
    frames = [[]]
    for word in row.split(" "):
        if word.startswith("("):
            frames.append([word[1:]])
            continue
        bare = word.rstrip(")")
        frames[-1].append(bare)
        for k in range(len(word) - len(bare)):
            need(len(frames) > 1)
            closed = frames.pop()
            frames[-1].append(bracket_in(closed))
    need(len(frames) == 1)
    return frames[0]


def read_term(text):
    items = items_of(text)
    need(len(items) == 1)
    return term_in(items[0])


def pieces_of_rows(rows):
    pieces = []
    for name, names, term in rows:
        pieces.append(" | " + " ".join([name] + list(names)) + " : ")
        pieces.append(term)
    return pieces


def pieces_of_terms(terms):
    pieces = []
    for term in terms:
        pieces.append(" ")
        pieces.append(term)
    return pieces


def pieces_of(term):
    word = term[0]
    if word == "name":
        return [term[1]]
    if word == "num":
        return [str(term[1])]
    if word == "op":
        return ["(" + term[1]] + pieces_of_terms(term[2:]) + [")"]
    if word == "zero":
        return ["(zero"] + pieces_of_terms(term[1:]) + [")"]
    if word == "let":
        return ["(let " + term[1]] + pieces_of_terms(term[2:]) + [")"]
    if word == "make":
        return ["(make " + term[1]] + pieces_of_terms(term[2]) + [")"]
    if word == "ask":
        return ["(ask ", term[1], " " + term[2]] + pieces_of_terms(term[3]) + [")"]
    if word == "case":
        return ["(case ", term[1], " to " + term[2]] + pieces_of_rows(term[3]) + [")"]
    return ["(new " + term[1]] + pieces_of_rows(term[2]) + [")"]


def show_term(term):
    signs = []
    ahead = [term]
    while ahead:
        piece = ahead.pop()
        if isinstance(piece, str):
            signs.append(piece)
        else:
            ahead.extend(pieces_of(piece)[::-1])
    return "".join(signs)
