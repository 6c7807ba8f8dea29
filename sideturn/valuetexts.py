"""Values read from their texts, and written as them."""

from sideturn.errors import NoValue
from sideturn.grid import makers_of, side_of
from sideturn.values import told_of
from sideturn.words import is_number


# A new's value is named by its place, the number of a row and one within it.
def show_name(name):
    if isinstance(name, str):
        return name
    row, number = name
    return f"{row}.{number}"


def show_thing(word, name, texts):
    if word == "made":
        return show_name(name) + "(" + ",".join(texts) + ")"
    return "[" + " ".join([show_name(name)] + texts) + "]"


def show_number(number):
    return str(number)


def show_value(value):
    return told_of(value, show_number, show_thing)


# Keeps how far the text is read, what must follow there, the next thing on
# top, and the values that are done.
class ValueRead:
    def __init__(self, text):
        self.text = text
        self.place = 0
        self.ahead = []
        self.done = []

    def plan(self, tasks):
        self.ahead.extend(tasks[::-1])

    def need_sign(self, sign):
        if self.text[self.place:self.place + 1] != sign:
            raise NoValue()
        self.place = self.place + 1

    def take_word(self, first, last):
        begin = self.place
        while first <= self.text[self.place:self.place + 1] <= last:
            self.place = self.place + 1
        return self.text[begin:self.place]


def read_number(reading):
    figures = reading.take_word("0", "9")
    if not is_number(figures):
        raise NoValue()
    reading.done.append(int(figures))


# What follows a maker's name: the signs, and the kinds of the parts.
def tasks_behind(side, fields):
    tasks = []
    for name, kind in fields:
        if side == "asked":
            tasks.append(("sign", " "))
        elif tasks:
            tasks.append(("sign", ","))
        tasks.append(("value", kind))
    if side == "asked":
        return tasks + [("sign", "]")]
    return [("sign", "(")] + tasks + [("sign", ")")]


def read_thing(reading, program, kind):
    side = side_of(program, kind)
    if side == "asked":
        reading.need_sign("[")
    maker = reading.take_word("a", "z")
    makers = dict(makers_of(program, kind))
    if maker not in makers:
        raise NoValue()
    fields = makers[maker]
    reading.plan(tasks_behind(side, fields) + [("thing", side, maker, len(fields))])


def build_thing(reading, side, maker, many):
    inside = [reading.done.pop() for k in range(many)][::-1]
    reading.done.append((side, maker, tuple(inside)))


def read_value(program, kind, text):
    reading = ValueRead(text)
    # Behind the value no sign may follow.
    reading.plan([("value", kind), ("sign", "")])
    while reading.ahead:
        task = reading.ahead.pop()
        if task[0] == "sign":
            reading.need_sign(task[1])
        elif task[0] == "thing":
            build_thing(reading, task[1], task[2], task[3])
        elif task[1] == "number":
            read_number(reading)
        else:
            read_thing(reading, program, task[1])
    return reading.done.pop()
