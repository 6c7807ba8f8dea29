import random
import unittest

import longer
import programs
from coding import OtherMachine
from sideturn.coder import code_of
from sideturn.lifting import lifted, lifted_end
from sideturn.machine import Machine
from sideturn.runs import Run, ran
from sideturn.termtexts import read_term
from sideturn.turning import turned, turned_value

BASE = programs.program_of("""made list | nil | cons head number tail list
def sum to number | cons : (+ head (ask tail sum)) | nil : 0
def none to list | nil : (make nil)
def spin to number | nil : (+ 1 (ask (make nil) spin))
def long n number to list | nil : (zero n (make nil) (make cons n (ask (make nil) long (- n 1))))
asked fun | self to fun | call arg number by number to number
tab inc | call : (+ arg by)
tab both f fun g fun | call : (ask g call (ask f call arg by) by) | self : (make both g f)""")
SUM = "(+ 1 (ask (make cons 3 (make cons 4 (make nil))) sum))"


def machine_of(text):
    return Machine(BASE, code_of(BASE, read_term(text)))


def told_by(machine):
    return (machine.cells(), machine.jumps(), machine.end())


class Going(unittest.TestCase):
    def test_nothing_is_done_ahead_of_going(self):
        for text in ("7", SUM, "(ask (make cons 1 (make nil)) none)", "(make cons 0 " * 60 + "(make nil)" + ")" * 60):
            self.assertEqual(told_by(machine_of(text)), ([], 0, None))

    def test_so_many_jumps_and_no_more(self):
        one, two = ("cons", "sum"), ("nil", "sum")
        for most, told, ended in (
            (0, ([], 0, None), False), (1, ([one], 1, None), False), (2, ([one, one], 2, None), False),
            (3, ([one, one, two], 3, ("answer", 8)), True), (4, ([one, one, two], 3, ("answer", 8)), True),
            (2000, ([one, one, two], 3, ("answer", 8)), True),
        ):
            machine = machine_of(SUM)
            self.assertIs(machine.go(most), ended)
            self.assertEqual(told_by(machine), told)

    def test_the_most_counts_from_here_on(self):
        machine = machine_of(SUM)
        for most, jumps, ended in ((1, 1, False), (0, 1, False), (0, 1, False), (1, 2, False), (1, 3, True), (0, 3, True), (5, 3, True)):
            self.assertIs(machine.go(most), ended)
            self.assertEqual((machine.jumps(), machine.end()), (jumps, ("answer", 8) if ended else None))

    def test_a_term_without_jumps(self):
        machine = machine_of("(let x 4 (zero (- x 4) (* x x) 1))")
        self.assertIs(machine.go(0), True)
        self.assertEqual(told_by(machine), ([], 0, ("answer", 16)))

    def test_a_fault_is_a_jump(self):
        for text, cells in (
            ("(ask (make cons 1 (make nil)) none)", [("cons", "none")]),
            ("(ask (make inc) self)", [("inc", "self")]),
            ("(ask (ask (make both (make inc) (make inc)) self) call 1 (ask (ask (make cons 1 (make nil)) none) sum))",
             [("both", "self"), ("cons", "none")]),
        ):
            machine = machine_of(text)
            self.assertIs(machine.go(len(cells) - 1), False)
            self.assertEqual(told_by(machine), (cells[:-1], len(cells) - 1, None))
            self.assertIs(machine.go(0), False)
            self.assertIs(machine.go(1), True)
            self.assertEqual(told_by(machine), (cells, len(cells), ("fault",) + cells[-1]))
            self.assertIs(machine.go(9), True)
            self.assertEqual(told_by(machine), (cells, len(cells), ("fault",) + cells[-1]))

    def test_great_at_a_make_is_no_jump(self):
        self.assertEqual(machine_of("(make cons 0 " * 59 + "(make nil)" + ")" * 59).go(0), True)
        machine = machine_of("(make cons 0 " * 60 + "(ask (make nil) none)" + ")" * 60)
        self.assertIs(machine.go(0), False)
        self.assertIs(machine.go(0), False)
        self.assertIs(machine.go(1), True)
        self.assertEqual(told_by(machine), ([("nil", "none")], 1, ("great", "cons")))
        machine = machine_of("(ask (ask (make nil) long 70) sum)")
        self.assertIs(machine.go(70), False)
        self.assertIs(machine.go(1), True)
        self.assertEqual(told_by(machine), ([("nil", "long")] * 71, 71, ("great", "cons")))

    def test_a_size_of_200_and_above(self):
        tree = "(make inc)"
        for k in range(6):
            tree = f"(make both {tree} {tree})"
        for text, end in ((f"(make both {tree} (make both {tree} (make inc)))", "great"), (f"(make both {tree} (make inc))", "answer")):
            machine = machine_of(text)
            self.assertIs(machine.go(0), True)
            self.assertEqual(machine.end()[0], end)
        self.assertEqual(ran(BASE, read_term(text), 0)[0], machine.end())

    def test_2000_jumps_one_within_another(self):
        machine = machine_of("(ask (make nil) spin)")
        self.assertIs(machine.go(2000), False)
        self.assertEqual(told_by(machine), ([("nil", "spin")] * 2000, 2000, None))
        self.assertIs(machine.go(1000), False)
        self.assertEqual(machine.jumps(), 3000)

    def test_lists_told_are_the_askers_own(self):
        machine = machine_of(SUM)
        machine.go(1)
        told = machine.cells()
        told.append("other")
        self.assertEqual(machine.cells(), [("cons", "sum")])
        held = machine.cells()
        machine.go(1)
        self.assertEqual((held, len(machine.cells())), ([("cons", "sum")], 2))

    def test_machines_of_one_code_go_by_themselves(self):
        code = code_of(BASE, read_term(SUM))
        one, other = Machine(BASE, code), Machine(BASE, code)
        one.go(2)
        self.assertEqual((one.jumps(), other.jumps()), (2, 0))
        self.assertTrue(other.go(3))
        self.assertEqual((one.end(), other.end()), (None, ("answer", 8)))
        self.assertEqual(code, code_of(BASE, read_term(SUM)))

    def test_a_program_without_kinds(self):
        machine = Machine((), code_of((), ("num", 4)))
        self.assertTrue(machine.go(0))
        self.assertEqual(told_by(machine), ([], 0, ("answer", 4)))


class HeldAgainstRuns(unittest.TestCase):
    """Jump for step, at once and in parts, and against another machine."""

    def held(self, chance, program, term, most):
        code = code_of(program, term)
        run, stages = Run(program, term), []
        while len(stages) <= most:
            stages.append((run.cells(), len(run.cells()), run.end()))
            if not run.step():
                break
        for jumps in (0, 1, chance.randrange(most), most):
            machine = Machine(program, code)
            stage = stages[min(jumps, len(stages) - 1)]
            self.assertIs(machine.go(jumps), stage[2] is not None)
            self.assertEqual(told_by(machine), stage)
            cells, end = OtherMachine(program, code).told(jumps)
            self.assertEqual((cells, None if end == ("late",) else end), (stage[0], stage[2]))
        machine, jumps = Machine(program, code), 0
        while jumps <= most - 4:
            part = chance.randrange(4)
            jumps += part
            stage = stages[min(jumps, len(stages) - 1)]
            self.assertIs(machine.go(part), stage[2] is not None)
            self.assertEqual(told_by(machine), stage)
        return stages[-1]

    def both_sides(self, chance, program, term, most):
        flat, names = lifted(program)
        cells, jumps, end = self.held(chance, flat, term, most)
        last = Run(program, term)
        while len(last.cells()) < most and last.step():
            pass
        self.assertEqual((cells, end), ([(names.get(c, c), names.get(f, f)) for c, f in last.cells()], lifted_end(names, last.end())))
        kinds = [kind[1] for kind in flat]
        for some in (kinds, chance.sample(kinds, chance.randrange(len(kinds) + 1))):
            told = self.held(chance, turned(flat, some), term, most)
            answer = ("answer", turned_value(flat, some, end[1])) if end and end[0] == "answer" else end
            self.assertEqual(told, (cells, jumps, answer))
        return end[0] if end else "late", jumps

    def test_programs_written_out(self):
        chance = random.Random(73)
        for text, terms in longer.ALL:
            for term in terms:
                self.both_sides(chance, programs.program_of(text), read_term(term), 80)

    def test_programs_by_chance(self):
        chance = random.Random(74)
        seen = {}
        for k in range(150):
            grown = programs.Grown(chance, with_tables=k % 3 > 0, few_names=k % 2 > 0)
            program = grown.program()
            for term in grown.asking_terms(3):
                end, jumps = self.both_sides(chance, program, term, 30)
                if jumps > 1:
                    seen[end] = seen.get(end, 0) + 1
        self.assertGreater(min(seen.get(end, 0) for end in ("answer", "fault", "late")), 15, msg=seen)
