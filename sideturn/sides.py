"""Sides of the least price, and a flow that shows it.

The flow is made as great as can be, way by way: then the ends to which there
is room from `made` are cut off by bonds that are full, and their price is what
flows.
"""

from sideturn.net import bonds, price


def number_of_bond(net, one, other):
    return net.get((one, other), net.get((other, one), 0))


# How much more may go from the one to the other, what comes back being less.
def room(net, flow, one, other):
    return number_of_bond(net, one, other) - flow.get((one, other), 0) + flow.get((other, one), 0)


def ends_of(net):
    ends = {}
    for one, other in net:
        ends[one] = True
        ends[other] = True
    return list(ends)


# From each end to which there is room from `made` to the one ahead of it on a
# shortest way.
def ways_from_made(net, flow):
    ends = ends_of(net)
    ahead_of = {"made": None}
    layer = ["made"]
    while layer:
        reached = []
        for one in layer:
            for other in ends:
                if other not in ahead_of and room(net, flow, one, other) > 0:
                    ahead_of[other] = one
                    reached.append(other)
        layer = reached
    return ahead_of


# The pairs on the way to `asked`, from its end on.
def way_to_asked(ahead_of):
    pairs = []
    end = "asked"
    while ahead_of[end] is not None:
        pairs.append((ahead_of[end], end))
        end = ahead_of[end]
    return pairs


# What comes back over the bond is taken off first: so none goes both ways.
def send(flow, pair, many):
    one, other = pair
    back = min(many, flow.get((other, one), 0))
    flow[(other, one)] = flow.get((other, one), 0) - back
    flow[pair] = flow.get(pair, 0) + many - back


def greatest_flow(net):
    flow = {}
    ahead_of = ways_from_made(net, flow)
    while "asked" in ahead_of:
        pairs = way_to_asked(ahead_of)
        many = min([room(net, flow, one, other) for one, other in pairs])
        for pair in pairs:
            send(flow, pair, many)
        ahead_of = ways_from_made(net, flow)
    return dict([(pair, many) for pair, many in flow.items() if many > 0])


def chosen(program, edits):
    net = bonds(program, edits)
    flow = greatest_flow(net)
    made = ways_from_made(net, flow)
    kinds = tuple([kind[1] for kind in program])
    sides = tuple(["made" if name in made else "asked" for name in kinds])
    return (price(net, kinds, sides), sides, flow)


def sum_into(flow, end):
    return sum([many for (one, other), many in flow.items() if other == end])


def sum_out_of(flow, end):
    return sum([many for (one, other), many in flow.items() if one == end])


def fits_bonds(net, flow):
    for one, other in flow:
        if (one, other) not in net and (other, one) not in net:
            return False
        if flow[(one, other)] <= 0:
            return False
        if flow[(one, other)] + flow.get((other, one), 0) > number_of_bond(net, one, other):
            return False
    return True


def flow_shows(net, flow, least):
    if not fits_bonds(net, flow):
        return False
    if sum_into(flow, "made") != 0 or sum_out_of(flow, "asked") != 0:
        return False
    kinds = [end for end in ends_of(net) if end not in ("made", "asked")]
    if any([sum_into(flow, kind) != sum_out_of(flow, kind) for kind in kinds]):
        return False
    return sum_out_of(flow, "made") == least
