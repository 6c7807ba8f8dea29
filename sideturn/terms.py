"""Terms, walked part by part."""

INNER_TABLES = ("case", "new")


# The terms that stand right in a term, in the text's order.
def terms_within(term):
    word = term[0]
    if word in ("op", "let"):
        return list(term[2:])
    if word == "zero":
        return list(term[1:])
    if word == "make":
        return list(term[2])
    if word == "ask":
        return [term[1]] + list(term[3])
    if word == "case":
        return [term[1]] + [row[2] for row in term[3]]
    if word == "new":
        return [row[2] for row in term[2]]
    return []


# A stack in the place of calls within calls: a term may be deeper than
# Python lets calls go.
def parts(term):
    told = []
    ahead = [term]
    while ahead:
        part = ahead.pop()
        told.append(part)
        ahead.extend(terms_within(part)[::-1])
    return told


def is_plain(term):
    return all([part[0] not in INNER_TABLES for part in parts(term)])
