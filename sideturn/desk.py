"""The desk: a program's text and a row in, an answer's text out."""

from sideturn.errors import NoRow, NoText
from sideturn.lifting import lifted
from sideturn.looker import look
from sideturn.reader import asker_in, cells_in, maker_in, read
from sideturn.runs import ran
from sideturn.sides import chosen
from sideturn.termtexts import items_of, name_in, need, parted, term_in
from sideturn.turning import turned
from sideturn.valuetexts import show_name, show_value
from sideturn.words import is_number
from sideturn.writer import shown

MOST_STEPS = 2000


def maker_edit_in(items):
    groups = parted(items)
    need(len(groups[0]) > 0)
    head = groups[0]
    return ("maker", name_in(head[0])) + maker_in(head[1:]) + (cells_in(groups[1:]),)


def asker_edit_in(items):
    groups = parted(items)
    need(len(groups[0]) > 0)
    head = groups[0]
    return ("asker", name_in(head[0])) + asker_in(head[1:]) + (cells_in(groups[1:]),)


def cell_edit_in(items):
    need(len(items) == 4)
    return ("cell",) + tuple([name_in(item) for item in items[:3]]) + (term_in(items[3]),)


def gone_edit_in(items):
    need(len(items) == 3)
    return ("gone",) + tuple([name_in(item) for item in items])


EDITS = {
    "maker": maker_edit_in,
    "asker": asker_edit_in,
    "cell": cell_edit_in,
    "gone": gone_edit_in,
}


# The first of some items, where it is a word of those that may stand there.
def word_in(items, words):
    need(len(items) > 0 and items[0] in words)
    return items[0]


def edit_in(items):
    word = word_in(items, list(EDITS))
    return EDITS[word](items[1:])


def steps_in(item):
    need(isinstance(item, str) and is_number(item) and int(item) <= MOST_STEPS)
    return int(item)


def run_in(items):
    need(len(items) == 2)
    return (steps_in(items[0]), term_in(items[1]))


def lift_in(items):
    need(len(items) == 0)


def turn_in(items):
    kinds = [name_in(item) for item in items]
    need(len(set(kinds)) == len(kinds))
    return kinds


def sides_in(items):
    return [edit_in(group) for group in parted(items, ";")]


READ = {
    "run": run_in,
    "lift": lift_in,
    "turn": turn_in,
    "sides": sides_in,
}


# The row's first word, and what it tells behind it.
def request_in(row):
    try:
        items = items_of(row)
        word = word_in(items, list(READ))
        return (word, READ[word](items[1:]))
    except NoText:
        raise NoRow() from None


def run_answer(program, told):
    most, term = told
    end, steps = ran(program, term, most)
    words = [show_value(end[1])] if end[0] == "answer" else [show_name(name) for name in end[1:]]
    return " ".join([end[0]] + words + ["after", str(steps)])


def lift_answer(program, told):
    return shown(lifted(program)[0])


def turn_answer(program, kinds):
    return shown(turned(program, kinds))


def sides_answer(program, edits):
    least, sides, flow = chosen(program, edits)
    words = ["price", str(least)]
    for kind, side in zip(program, sides):
        words.extend([kind[1], side])
    return " ".join(words)


ANSWERS = {
    "run": run_answer,
    "lift": lift_answer,
    "turn": turn_answer,
    "sides": sides_answer,
}


def answered(text, row):
    program = read(text)
    look(program)
    word, told = request_in(row)
    return ANSWERS[word](program, told)
