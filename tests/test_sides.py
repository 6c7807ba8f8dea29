import random
import unittest

import programs
from counting import all_sides, flow_faults
from editing import edits_by_chance
from sideturn.errors import NoEdit, NotFlat
from sideturn.net import bonds, price
from sideturn.sides import chosen, flow_shows, greatest_flow
from sideturn.termtexts import read_term
from sideturn.touched import touched_by
from sideturn.turning import turned

BASE = programs.program_of("""made list | nil | cons head number tail list
def sum to number | cons : (+ head (ask tail sum)) | nil : 0
asked fun | call arg number to number
tab inc | call : (+ arg 1)
tab total l list | call : (+ arg (ask l sum))""")
TABLES = programs.program_of("made list | nil\ndef sum to number | nil : (case (make nil) to number | nil : 1)")


def rows(*told):
    return tuple((name, read_term(text)) for name, text in told)


MAKERS = (("maker", "list", "one", (), rows(("sum", "1"))), ("maker", "list", "two", (), rows(("sum", "2"))))
ASKERS = (("asker", "list", "len", (), "number", rows(("nil", "1"), ("cons", "2"))), ("asker", "list", "id", (), "list", rows(("nil", "(make nil)"))))


class Chosen(unittest.TestCase):
    def held(self, program, edits):
        told = chosen(program, edits)
        least, sides, flow = told
        self.assertEqual((type(told), type(sides), type(flow)), (tuple, tuple, dict))
        prices = {some: sum(touched_by(program, edits, some)) for some in all_sides(program)}
        self.assertEqual(least, prices[sides])
        self.assertEqual(least, min(prices.values()))
        net = bonds(program, edits)
        self.assertEqual(flow_faults(net, flow, least), [])
        self.assertIs(flow_shows(net, flow, least), True)
        self.assertEqual(chosen(program, edits), told)
        return told

    def test_makers_more_are_for_askers_and_askers_more_for_makers(self):
        self.assertEqual(self.held(BASE[:1], MAKERS)[:2], (2, ("asked",)))
        self.assertEqual(self.held(BASE[:1], ASKERS)[:2], (2, ("made",)))
        self.assertEqual(self.held(turned(BASE[:1], ["list"]), MAKERS)[:2], (2, ("asked",)))
        self.assertEqual(self.held(turned(BASE[:1], ["list"]), ASKERS)[:2], (2, ("made",)))

    def test_each_kind_by_its_own_where_none_uses_another(self):
        more = (("asker", "fun", "one", (), "number", rows(("inc", "1"), ("total", "2"))),)
        self.assertEqual(self.held(BASE, MAKERS + more)[:2], (3, ("asked", "made")))

    def test_no_edits(self):
        for program in ((), BASE[:1], BASE):
            least, sides, flow = self.held(program, ())
            self.assertEqual((least, flow, len(sides)), (0, {}, len(program)))

    def test_refused(self):
        for edits in ((), MAKERS, (("gone", "list", "nil", "other"),)):
            with self.assertRaises(NotFlat) as caught:
                chosen(TABLES, edits)
            self.assertEqual(caught.exception.row, 1)
        for edits in ((("gone", "list", "nil", "other"),), MAKERS + (("gone", "lists", "nil", "sum"),), MAKERS[:1] * 2):
            with self.assertRaises(NoEdit):
                chosen(BASE, edits)

    def test_what_is_told_is_the_askers_own(self):
        chosen(BASE, MAKERS)[2].clear()
        self.held(BASE, MAKERS)

    def test_programs_by_chance(self):
        chance = random.Random(95)
        flows = 0
        for k in range(80):
            program, edits = edits_by_chance(chance)
            least, sides, flow = self.held(program, edits)
            flows += least > 0
        self.assertGreater(flows, 40)


class Nets(unittest.TestCase):
    """Nets by chance, of more kinds and greater numbers than edits make."""

    def test_the_greatest_flow_is_the_least_price(self):
        chance = random.Random(96)
        across = 0
        for k in range(400):
            kinds = tuple("klmnopq"[:chance.randrange(8)])
            pairs = [("made", kind) for kind in kinds] + [(kind, "asked") for kind in kinds]
            pairs += [(one, other) for place, one in enumerate(kinds) for other in kinds[place + 1:]]
            net = {pair: chance.randrange(1, chance.choice((3, 20))) for pair in pairs if chance.randrange(3)}
            flow = greatest_flow(net)
            least = min(price(net, kinds, sides) for sides in all_sides(kinds))
            self.assertEqual(flow_faults(net, flow, least), [])
            self.assertIs(flow_shows(net, flow, least), True)
            across += len([pair for pair in flow if "made" not in pair and "asked" not in pair])
        self.assertGreater(across, 200)

    def test_a_way_that_must_be_taken_back(self):
        # the shortest ways first fill the bond between k and l the wrong way about
        net = {("made", "k"): 2, ("k", "l"): 3, ("l", "asked"): 1, ("k", "m"): 1, ("m", "asked"): 4, ("made", "n"): 2, ("l", "n"): 2, ("n", "m"): 1}
        flow = greatest_flow(net)
        kinds = ("k", "l", "n", "m")
        least = min(price(net, kinds, sides) for sides in all_sides(kinds))
        self.assertEqual(flow_faults(net, flow, least), [])


class FlowShows(unittest.TestCase):
    NET = {("made", "k"): 3, ("k", "asked"): 2, ("made", "l"): 1, ("l", "asked"): 4, ("k", "l"): 2}
    FLOW = {("made", "k"): 3, ("made", "l"): 1, ("k", "asked"): 2, ("k", "l"): 1, ("l", "asked"): 2}

    def shows(self, flow, least, net=None):
        return flow_shows(self.NET if net is None else net, flow, least)

    def test_a_flow_that_shows_its_price(self):
        self.assertIs(self.shows(self.FLOW, 4), True)
        self.assertIs(self.shows({}, 0), True)
        self.assertIs(self.shows({}, 0, {}), True)
        self.assertIs(self.shows({("made", "k"): 2, ("k", "asked"): 2}, 2), True)

    def test_either_way_about_and_both_ways_added(self):
        back = {("made", "k"): 3, ("k", "asked"): 3, ("l", "k"): 1, ("made", "l"): 1, ("k", "l"): 1}
        net = {("made", "k"): 3, ("k", "asked"): 4, ("made", "l"): 1, ("k", "l"): 2, ("l", "asked"): 1}
        self.assertIs(self.shows({("made", "l"): 1, ("l", "k"): 1, ("k", "asked"): 1}, 1), True)
        self.assertIs(self.shows({**back, ("l", "asked"): 1}, 4, net), True)
        self.assertIs(self.shows({**back, ("l", "asked"): 1}, 4, {**net, ("k", "l"): 1}), False)
        self.assertIs(self.shows({**self.FLOW, ("k", "l"): 2, ("l", "k"): 1}, 4), False)
        self.assertIs(self.shows({**self.FLOW, ("k", "l"): 2, ("l", "k"): 1}, 4, {**self.NET, ("k", "l"): 3}), True)

    def test_more_than_a_bond_holds(self):
        for pair in self.NET:
            self.assertIs(self.shows(self.FLOW, 4, {**self.NET, pair: self.FLOW[pair]}), True)
            self.assertIs(self.shows(self.FLOW, 4, {**self.NET, pair: self.FLOW[pair] - 1}), False)

    def test_pairs_that_are_no_bonds(self):
        for pair in (("made", "asked"), ("k", "m"), ("m", "l"), ("k", "k"), ("made", "made"), ("asked", "asked"), ("", "")):
            self.assertIs(self.shows({**self.FLOW, pair: 1}, 4), False)
            self.assertIs(self.shows({**self.FLOW, pair: 1}, 5), False)
            self.assertIs(self.shows({**self.FLOW, pair: 0}, 4), False)
        self.assertIs(self.shows({**self.FLOW, ("k", "m"): 1, ("m", "k"): 1}, 4), False)
        for pair in self.NET:
            self.assertIs(self.shows(self.FLOW, 4, {one: many for one, many in self.NET.items() if one != pair}), False)

    def test_numbers_that_are_not_above_0(self):
        for flow in ({("made", "k"): 0}, {("k", "l"): 0}, {("l", "k"): 0}, {("k", "l"): 1, ("l", "k"): 0},
                     {("k", "l"): -1, ("l", "k"): -1}, {("made", "k"): -1, ("k", "asked"): -1}, {("made", "k"): 0, ("k", "asked"): 0}):
            for least in (-1, 0):
                self.assertIs(self.shows(flow, least), False, msg=flow)
        self.assertIs(self.shows({**self.FLOW, ("l", "k"): 0}, 4), False)
        self.assertIs(self.shows({("made", "k"): 1, ("k", "asked"): 2, ("k", "l"): -1, ("made", "l"): 1}, 2), False)

    def test_into_a_kind_more_or_less_than_out_of_it(self):
        for pair in self.FLOW:
            less = {**self.FLOW, pair: self.FLOW[pair] - 1}
            less = {one: many for one, many in less.items() if many > 0}
            for least in (3, 4, 5):
                self.assertIs(self.shows(less, least), False, msg=pair)
        for flow, least in (({("made", "k"): 1}, 1), ({("k", "asked"): 1}, 0), ({("k", "l"): 1}, 0), ({("made", "k"): 1, ("k", "l"): 1}, 1),
                            ({("k", "l"): 1, ("l", "asked"): 1}, 0)):
            self.assertIs(self.shows(flow, least), False)

    def test_into_made_or_out_of_asked(self):
        wide = {pair: 9 for pair in self.NET}
        self.assertIs(self.shows(self.FLOW, 4, wide), True)
        # round trips over made: what comes back is as much as goes out
        self.assertIs(self.shows({("made", "k"): 2, ("k", "made"): 2}, 2, wide), False)
        self.assertIs(self.shows({("made", "k"): 2, ("k", "made"): 2}, 0, wide), False)
        self.assertIs(self.shows({("made", "k"): 1, ("k", "l"): 1, ("l", "made"): 1}, 1, wide), False)
        self.assertIs(self.shows({**self.FLOW, ("made", "k"): 4, ("k", "made"): 1}, 5, wide), False)
        self.assertIs(self.shows({**self.FLOW, ("made", "k"): 4, ("k", "made"): 1}, 4, wide), False)
        self.assertIs(self.shows({("k", "asked"): 1, ("asked", "k"): 1}, 0, wide), False)
        self.assertIs(self.shows({("asked", "k"): 1, ("k", "l"): 1, ("l", "asked"): 1}, 0, wide), False)
        self.assertIs(self.shows({**self.FLOW, ("l", "asked"): 3, ("asked", "l"): 1}, 4, wide), False)

    def test_another_price(self):
        for least in (-4, 0, 3, 5):
            self.assertIs(self.shows(self.FLOW, least), False)
        self.assertIs(self.shows({}, 1), False)

    def test_what_is_handed_in_stays(self):
        net, flow = dict(self.NET), dict(self.FLOW)
        flow_shows(net, flow, 4)
        self.assertEqual((net, flow), (self.NET, self.FLOW))

    def test_flows_by_chance_held_against_another_count(self):
        chance = random.Random(97)
        seen = {}
        ends = ("made", "asked", "k", "l", "m")
        for k in range(6000):
            net = {pair: chance.randrange(1, 4) for pair in (("made", "k"), ("k", "asked"), ("made", "l"), ("l", "asked"), ("k", "l"), ("l", "m"))
                   if chance.randrange(4)}
            flow = dict(greatest_flow(net)) if chance.randrange(2) else {}
            for j in range(chance.randrange(3)):
                pair = chance.choice(list(net) + [(chance.choice(ends), chance.choice(ends))])
                flow[pair[::chance.choice((1, -1))]] = chance.randrange(-1, 4)
            if net and not chance.randrange(4):
                pair = chance.choice(list(net))
                net[pair] = max(1, net[pair] - 1)
            least = chance.randrange(4) if chance.randrange(2) else sum(many for pair, many in flow.items() if pair[0] == "made")
            faults = flow_faults(net, flow, least)
            self.assertIs(flow_shows(net, flow, least), not faults, msg=(net, flow, least))
            for fault in set(faults) if len(set(faults)) == 1 else []:
                seen[fault] = seen.get(fault, 0) + 1
            seen["none"] = seen.get("none", 0) + (not faults)
        self.assertGreater(min(seen.get(fault, 0) for fault in ("bond", "number", "more", "kept", "price", "none")), 5, msg=seen)
