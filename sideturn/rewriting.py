"""Terms rewritten, step by step, by the cells of a flat program.

The term is done as in a run till a step is due. What is then done, and what
is still to be done, is read back as a term: the tasks that are ahead are gone
through once more, with terms in the place of values.
"""

from sideturn.grid import cell
from sideturn.looker import look_term
from sideturn.runs import begun
from sideturn.termlooker import Heads
from sideturn.terms import remade, terms_within, with_terms
from sideturn.values import told_of


def term_of_number(number):
    return ("num", number)


def term_of_thing(word, name, terms):
    return ("make", name, tuple(terms))


def value_term(value):
    return told_of(value, term_of_number, term_of_thing)


def terms_entered(part, bound):
    return [(one, bound) for one in terms_within(part)]


def part_with_values(part, bound, inside):
    if part[0] != "name":
        return with_terms(part, inside)
    return value_term(bound[part[1]][0]) if part[1] in bound else part


# The term in which bound names are their values' terms. None of them is bound
# again within it, as it is let by where they are bound.
def with_values(term, bound):
    return remade(term, bound, terms_entered, part_with_values) if bound else term


def read_term_back(done, task):
    word, term, bound = task
    done.append(with_values(term, bound))


def read_op_back(done, task):
    other = done.pop()
    done.append(("op", task[1], done.pop(), other))


def read_zero_back(done, task):
    word, then, otherwise, bound = task
    done.append(("zero", done.pop(), with_values(then, bound), with_values(otherwise, bound)))


def read_let_back(done, task):
    word, name, term, bound = task
    done.append(("let", name, done.pop(), with_values(term, bound)))


def read_make_back(done, task):
    word, maker, many = task
    terms = [done.pop() for k in range(many)][::-1]
    done.append(("make", maker, tuple(terms)))


def read_ask_back(done, task):
    word, asker, many = task
    terms = [done.pop() for k in range(many)][::-1]
    done.append(("ask", done.pop(), asker, tuple(terms)))


READ_BACK = {
    "term": read_term_back,
    "op": read_op_back,
    "zero": read_zero_back,
    "let": read_let_back,
    "make": read_make_back,
    "ask": read_ask_back,
}


# The whole term, with this one where the step was due.
def read_back(doing, term):
    done = [value_term(thing[0]) for thing in doing.done] + [term]
    for task in doing.ahead[::-1]:
        READ_BACK[task[0]](done, task)
    return done.pop()


def rewritten(program, term):
    look_term(program, term)
    heads = Heads(program)
    doing = begun(heads, term)
    if doing.ending is not None:
        return doing.ending
    (maker, asker), bound, things = doing.due
    found = cell(program, maker, asker)
    if found is None:
        return ("fault", maker, asker)
    names = [name for name, kind in heads.bound_in_cell(maker, asker)]
    step = with_values(found, dict(zip(names, things)))
    return ("next", (maker, asker), read_back(doing, step))
