"""What the document promises over the whole program.

A program's run, the rewriting, the code, and those of the lifted, of turned, of edited programs, held against one another.
"""

import random
import unittest

import longer
import programs
from counting import all_sides, flow_faults
from editing import Editing, edits_by_chance
from sideturn.coder import code_of
from sideturn.desk import answered
from sideturn.edits import edited
from sideturn.lifting import lifted, lifted_end, lifted_value
from sideturn.machine import Machine
from sideturn.net import bonds
from sideturn.reader import read
from sideturn.rewriting import rewritten
from sideturn.runs import Run, ran
from sideturn.sides import chosen
from sideturn.termtexts import read_term, show_term
from sideturn.touched import touched_by
from sideturn.turning import in_order, turned, turned_value
from sideturn.writer import shown


def turned_end(program, kinds, end):
    if end is not None and end[0] == "answer":
        return ("answer", turned_value(program, kinds, end[1]))
    return end


def some_kinds(chance, program):
    names = [kind[1] for kind in program]
    return tuple(chance.sample(names, chance.randrange(len(names) + 1)))


class Whole(unittest.TestCase):
    def stages(self, program, term, most):
        run = Run(program, term)
        told = [(run.cells(), run.waiting(), run.end())]
        while len(told) <= most and run.step():
            told.append((run.cells(), run.waiting(), run.end()))
        return told

    def rewriting_held(self, program, term, told):
        """Step by step the cells, and the end, as the run told them."""
        cells, waiting, end = told[-1]
        for k, cell in enumerate(cells[:30]):
            step = rewritten(program, term)
            if k == len(cells) - 1 and end is not None and end[0] == "fault":
                self.assertEqual(step, end)
                return
            self.assertEqual(step[:2], ("next", cell))
            term = step[2]
        if len(cells) <= 30 and end is not None:
            self.assertEqual(rewritten(program, term), end)

    def code_held(self, program, term, told):
        """Jump by jump the cells, and the end, as the run told them."""
        machine = Machine(program, code_of(program, term))
        for k, (cells, waiting, end) in enumerate(told):
            self.assertIs(machine.go(min(k, 1)), end is not None)
            self.assertEqual((machine.cells(), machine.jumps(), machine.end()), (cells, k, end))

    def flat_held(self, program, term, told):
        """All ways in which a flat program is run, and it written and read again."""
        self.assertEqual(self.stages(program, term, len(told) - 1), told)
        self.rewriting_held(program, term, told)
        self.code_held(program, term, told)
        self.assertEqual(read(shown(program)), program)

    def held(self, chance, program, term, most):
        self.assertEqual(read(shown(program)), program)
        told = self.stages(program, term, most)
        flat, names = lifted(program)
        lifted_told = [([(names.get(maker, maker), names.get(asker, asker)) for maker, asker in cells], waiting, lifted_end(names, end))
                       for cells, waiting, end in told]
        self.assertEqual(self.stages(flat, term, most), lifted_told)
        self.flat_held(flat, term, lifted_told)
        for kinds in (some_kinds(chance, flat), tuple(kind[1] for kind in flat)):
            other = turned(flat, kinds)
            turned_told = [(cells, waiting, turned_end(flat, kinds, end)) for cells, waiting, end in lifted_told]
            self.assertEqual(self.stages(other, term, most), turned_told)
            self.flat_held(other, term, turned_told)
            self.assertEqual(self.stages(turned(other, kinds), term, most), lifted_told)
            self.assertEqual(turned(other, kinds), in_order(flat, kinds))
        steps = chance.randrange(most)
        end, many = ran(program, term, steps)
        self.assertEqual(ran(flat, term, steps), (lifted_end(names, end), many))
        return told[-1]

    def test_programs_written_out(self):
        chance = random.Random(61)
        for text, terms in longer.ALL:
            program = programs.program_of(text)
            for term in terms:
                self.held(chance, program, read_term(term), 70)

    def test_programs_by_chance(self):
        chance = random.Random(62)
        seen = {}
        for k in range(200):
            grown = programs.Grown(chance, with_tables=k % 3 > 0, few_names=k % 2 > 0)
            program = grown.program()
            for term in grown.asking_terms(3):
                cells, waiting, end = self.held(chance, program, term, 30)
                sorts = "flat" if k % 3 == 0 else "tables" if any(type(one) is tuple for pair in cells for one in pair) else "plain"
                if len(cells) > 1:
                    seen[sorts] = seen.get(sorts, 0) + 1
        self.assertGreater(min(seen.get(sorts, 0) for sorts in ("flat", "tables", "plain")), 30, msg=seen)

    def test_edited_programs_by_chance(self):
        chance = random.Random(64)
        many = 0
        for k in range(80):
            grown = programs.Grown(chance, with_tables=k % 2 > 0)
            program = lifted(grown.program())[0]
            grown.with_tables = False
            editing = Editing(chance, grown)
            for j in range(4):
                edit = editing.fit(program)
                if edit is None:
                    continue
                kinds = some_kinds(chance, program)
                behind = edited(program, edit)
                self.assertEqual(turned(edited(turned(program, kinds), edit), kinds), in_order(behind, kinds))
                program = behind
                for term in grown.asking_terms(1):
                    cells, waiting, end = self.held(chance, program, term, 15)
                    many += len(cells) > 1
                    self.desk_held(program, term, (end or ("late",), len(cells)))
        self.assertGreater(many, 60)

    def desk_held(self, program, term, told):
        """The desk tells of the text what was told of the program, whatever was done to it ahead."""
        (word, *rest), steps = told
        names = " ".join(kind[1] for kind in program)
        for text in (shown(program), answered(shown(program), "lift"), answered(shown(program), f"turn {names}")):
            words = answered(text, f"run 15 {show_term(term)}").split(" ")
            self.assertEqual((words[0], words[-2:]), (word, ["after", str(steps)]))
            if word in ("fault", "great"):
                self.assertEqual(words[1:-2], rest)

    def test_prices_and_flows_of_edited_programs(self):
        chance = random.Random(65)
        for k in range(40):
            program, edits = edits_by_chance(chance)
            least, sides, flow = chosen(program, edits)
            prices = [sum(touched_by(program, edits, some)) for some in all_sides(program)]
            self.assertEqual((least, least), (min(prices), sum(touched_by(program, edits, sides))))
            # whichever sides the program is told from ahead, the same price comes, and the flow shows it
            other = turned(program, some_kinds(chance, program))
            self.assertEqual(chosen(other, edits)[0], least)
            self.assertEqual(flow_faults(bonds(other, edits), flow, least), [])

    def test_tables_as_deep_as_the_bounds(self):
        letters = "abcdefghijklmnopqrstuvwxyz"
        term = "0"
        for letter in letters:
            term = f"(+ {letter} {term})"
        # thirteen cases and thirteen news, each within the others, and all their names taken by the innermost
        for one, other in zip(letters[::2], letters[1::2]):
            term = f"(case (make one 1) to number | one {one} : (ask (new fun | call {other} : {term}) call {one}))"
        program = programs.program_of(f"made one | one x number\ndef go to number | one : {term}".replace("one x", "one xx")
                                      + "\nasked fun | call arg number to number")
        flat, names = lifted(program)
        self.assertEqual(len(names), 26)
        self.assertEqual(max(len(table[1]) for kind in flat for table in kind[3]), 25)
        cells, waiting, end = self.held(random.Random(63), program, read_term("(ask (make one 5) go)"), 70)
        self.assertEqual((len(cells), waiting, end), (27, 0, ("answer", 26)))

    def test_2000_steps(self):
        program = programs.program_of(longer.GROWING)
        flat, names = lifted(program)
        for text in ("(ask (make leaf) spin)", "(ask (make more (make end)) long 0)"):
            end, steps = ran(program, read_term(text), 2000)
            self.assertEqual((end, steps), (("late",), 2000))
            for kinds in ((), ("tree",), ("link",), ("link", "tree")):
                self.assertEqual(ran(turned(flat, kinds), read_term(text), 2000), (end, steps))

    def test_turning_values_is_one_to_one(self):
        program = programs.program_of(longer.FLOWS)
        values = [ran(program, read_term(term), 200)[0][1] for term in longer.FLOW_TERMS
                  if ran(program, read_term(term), 200)[0][0] == "answer"]
        for kinds in ((), ("flow",), ("fun", "list"), ("flow", "fun", "list")):
            told = [turned_value(program, kinds, value) for value in values]
            self.assertEqual([turned_value(turned(program, kinds), kinds, value) for value in told], values)
            self.assertEqual(len(set(told)), len(set(values)))

    def test_lifted_values_go_by_the_names(self):
        program = programs.program_of(longer.NESTED)
        flat, names = lifted(program)
        term = read_term("(ask (make box (make cons 5 (make nil))) put 3)")
        value = ran(program, term, 9)[0][1]
        self.assertEqual(ran(flat, term, 9)[0][1], lifted_value(names, value))
        self.assertNotEqual(lifted_value(names, value), value)
