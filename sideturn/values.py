"""Values: how great they are, and how deep."""


# What comes of a value from within: of each number what of_number tells,
# of each thing what of_thing tells by what its parts came to. A stack in the
# place of calls within calls, as in terms.
def told_of(value, of_number, of_thing):
    done = []
    ahead = [(value, False)]
    while ahead:
        part, is_entered = ahead.pop()
        if isinstance(part, int):
            done.append(of_number(part))
        elif is_entered:
            inside = [done.pop() for one in part[2]][::-1]
            done.append(of_thing(part[0], part[1], inside))
        else:
            ahead.append((part, True))
            ahead.extend([(one, False) for one in part[2][::-1]])
    return done.pop()


def number_itself(number):
    return number


def none_of(number):
    return 0


def size_of_thing(word, name, sizes):
    return 1 + sum(sizes)


def deep_of_thing(word, name, deeps):
    return 1 + max(deeps, default=0)


def size(value):
    return told_of(value, none_of, size_of_thing)


def deep(value):
    return told_of(value, none_of, deep_of_thing)
