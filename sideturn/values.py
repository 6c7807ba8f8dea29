"""Values: how great they are, and how deep, and how runs make them.

Runs keep a value as a thing: the value with its size, how deep it is, and the
things of its parts, so that nothing needs to be counted again.
"""

NUMBERS = 1000000
GREATEST_SIZE = 200
GREATEST_DEEP = 60


# What comes of a value from within: of each number what of_number tells,
# of each thing what of_thing tells by what its parts came to. A stack in the
# place of calls within calls, as in terms.
def told_of(value, of_number, of_thing):
    done = []
    ahead = [(value, False)]
    while ahead:
        part, is_entered = ahead.pop()
        if isinstance(part, int):
            done.append(of_number(part))
        elif is_entered:
            inside = [done.pop() for one in part[2]][::-1]
            done.append(of_thing(part[0], part[1], inside))
        else:
            ahead.append((part, True))
            ahead.extend([(one, False) for one in part[2][::-1]])
    return done.pop()


def number_itself(number):
    return number


def none_of(number):
    return 0


def size_of_thing(word, name, sizes):
    return 1 + sum(sizes)


def deep_of_thing(word, name, deeps):
    return 1 + max(deeps, default=0)


def size(value):
    return told_of(value, none_of, size_of_thing)


def deep(value):
    return told_of(value, none_of, deep_of_thing)


def thing_of_number(number):
    return (number, 0, 0, ())


# None where the value would be too great.
def thing_made(word, name, things):
    many = size_of_thing(word, name, [thing[1] for thing in things])
    within = deep_of_thing(word, name, [thing[2] for thing in things])
    if many > GREATEST_SIZE or within > GREATEST_DEEP:
        return None
    value = (word, name, tuple([thing[0] for thing in things]))
    return (value, many, within, tuple(things))


def thing_of_op(sign, one, other):
    if sign == "+":
        return thing_of_number((one[0] + other[0]) % NUMBERS)
    if sign == "-":
        return thing_of_number((one[0] - other[0]) % NUMBERS)
    return thing_of_number(one[0] * other[0] % NUMBERS)
