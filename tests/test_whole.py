"""What is promised over the whole program, sentence by sentence, and that nothing in it hangs on chance."""

import itertools
import os
import subprocess
import sys
import unittest

from nestturn.alike import compared
from nestturn.best import best, freeing, reach, turned_by, turnings
from nestturn.forms import comes_to, counts_of
from nestturn.keeping import broken, leads, led
from nestturn.meets import is_reason, meeting
from nestturn.needs import needed
from nestturn.plans import keys, order_of, plain_plan
from nestturn.programs import cells_of, program_of
from nestturn.rounds import are_rounds, barring, rounds
from nestturn.runs import plain, run
from nestturn.texts import read, shown
from nestturn.touch import pairs, touches
from nestturn.traces import traced
from nestturn.turns import backward, blocked, cut, exchanged, moved, slanted
from samples import NO_COUNTS, PROGRAM, TRIPLE, at, one_nest, plain_nest, some_programs

TOP = os.path.dirname(os.path.dirname(os.path.abspath(__file__)))
EMPTY = program_of((1,), (plain_nest(NO_COUNTS),))
PROGRAMS = some_programs()[::3] + [
    PROGRAM, TRIPLE, EMPTY, one_nest(at(0, 0)), one_nest(at(0), at(1, 0), at(2, 0), at(0, 2)),
    one_nest((0, ((0, 1),), (1, 1), ((2, 0, ((-1, 1),)),)), loops=(((0,), (5,)),)),
]


def all_cells(program):
    told = {(0, (77,) * program[0][0])}
    for cell, reads in cells_of(program):
        told |= {cell, *reads}
    return sorted(told)


def fillings(program):
    cells = all_cells(program)
    return [{}, {cell: 5 ** at - 9 for at, cell in enumerate(cells)}, {cell: -at for at, cell in enumerate(cells)}]


def ends_of(program, row, filling):
    """What each cell holds in the end, set or not."""
    return {cell: {**filling, **run(program, row, filling)}.get(cell, 0) for cell in all_cells(program)}


def some_orders(program):
    """Orders by plans turned in many ways, and some that no plan told."""
    steps = plain(program)
    told = [steps, steps[::-1], steps[1::2] + steps[::2], steps[1:] + steps[:1]]
    for at in range(len(steps) - 1):
        told.append(steps[:at] + [steps[at + 1], steps[at]] + steps[at + 2:])
    for nest in range(len(program[1])):
        told += [order_of(program, turned_by(program, nest, turning)) for turning in turnings(program, nest)[:9]]
    return told


class Sentences(unittest.TestCase):
    def test_what_is_told_of_the_ends_holds_whatever_was_in_the_tables(self):
        for program in PROGRAMS:
            for row in some_orders(program)[:5] + [plain(program)[::3]]:
                traces = traced(program, row)
                for filling in fillings(program):
                    told = {cell: number + sum(factor * filling.get(other, 0) for other, factor in parts)
                            for cell, (number, parts) in traces.items()}
                    self.assertEqual(told, run(program, row, filling))

    def test_places_meet_or_are_apart_with_a_reason(self):
        forms = list(itertools.product((-2, 0, 3), (-2, 0, 1)))
        for loops, others in itertools.product(((((0,), (3,)),), (((2,), (1,)),)), repeat=2):
            for one, other in itertools.product(forms, repeat=2):
                told = meeting(loops, (one,), others, (other,))
                met = [(here, there) for here in counts_of(loops) for there in counts_of(others)
                       if comes_to(one, here) == comes_to(other, there)]
                if met:
                    self.assertEqual(told, ("meet",) + met[0])
                else:
                    self.assertEqual(told[0], "apart")
                    self.assertIs(is_reason(loops, (one,), others, (other,), told[1]), True)

    def test_an_order_that_keeps_and_one_that_does_not(self):
        kept = 0
        for program in PROGRAMS:
            for order in some_orders(program):
                wrong = [(i, j) for i, j, cells in pairs(program) if order.index(i) > order.index(j)]
                self.assertEqual(broken(program, order), wrong[0] if wrong else None)
                exchanges = led(program, order)
                if wrong:
                    self.assertIsNone(exchanges)
                    continue
                kept += 1
                self.assertIs(leads(program, exchanges, order), True)
                self.assertEqual(compared(program, order, plain(program)), ("alike",))
                for filling in fillings(program):
                    self.assertEqual(run(program, order, filling), run(program, plain(program), filling))
        self.assertGreater(kept, 50)

    def test_two_orders_are_alike_or_a_filling_shows_that_they_are_not(self):
        found = 0
        for program in PROGRAMS:
            orders = some_orders(program)[:8]
            for one, other in itertools.combinations(orders, 2):
                told = compared(program, one, other)
                if told == ("alike",):
                    for filling in fillings(program):
                        self.assertEqual(ends_of(program, one, filling), ends_of(program, other, filling))
                else:
                    word, filling, cell, by_one, by_other = told
                    self.assertEqual(word, "unlike")
                    self.assertNotEqual(by_one, by_other)
                    self.assertEqual(run(program, one, filling).get(cell, filling.get(cell, 0)), by_one)
                    self.assertEqual(run(program, other, filling).get(cell, filling.get(cell, 0)), by_other)
                    found += 1
        self.assertGreater(found, 50)

    def test_the_rounds_are_as_few_as_can_be(self):
        for program in PROGRAMS:
            told, chain = rounds(program)
            self.assertIs(are_rounds(program, told), True)
            self.assertEqual(len(chain), len(told))
            for i, j in zip(chain, chain[1:]):
                self.assertLess(i, j)
                self.assertIs(touches(program, i, j), True)

    def test_what_is_free_may_go_in_any_order(self):
        found = 0
        for program in PROGRAMS:
            for nest in range(len(program[1])):
                d = len(program[1][nest][0])
                for turning in freeing(program, nest):
                    plan = turned_by(program, nest, turning)
                    told = keys(program, plan)
                    self.assertIsNone(barring(program, plan, d))
                    # Several ways to go through the steps that have the same ahead of d.
                    for worth in (lambda key: -key[d], lambda key: key[d] % 2, lambda key: (key[d] * 7) % 5):
                        order = sorted(order_of(program, plan), key=lambda step: (told[step][:d], worth(told[step])))
                        self.assertIsNone(broken(program, order))
                        found += order != order_of(program, plan)
        self.assertGreater(found, 10)

    def test_what_is_not_needed_may_be_left_out(self):
        for program in PROGRAMS:
            for cell in all_cells(program):
                row = needed(program, [cell])
                for filling in fillings(program):
                    self.assertEqual(ends_of(program, row, filling)[cell], ends_of(program, plain(program), filling)[cell])

    def test_plans_turned_and_turned_back_are_the_first_ones(self):
        for program in PROGRAMS:
            for nest in range(len(program[1])):
                first = turned_by(program, nest, turnings(program, nest)[1])
                for a, b in itertools.product(range(5), repeat=2):
                    plan = exchanged(program, first, nest, a, b)
                    self.assertEqual(exchanged(program, plan, nest, a, b), first)
                    self.assertEqual(backward(program, backward(program, plan, nest, a), nest, a), plan)
                    there = moved(program, plan, nest, 0, a, 11)
                    self.assertEqual(moved(program, there, nest, 0, a, -11), plan)
                    self.assertEqual(cut(program, blocked(program, plan, nest, a, 4), a), plan)
                    if a != b:
                        there = slanted(program, plan, nest, a, b, -6)
                        self.assertEqual(slanted(program, there, nest, a, b, 6), plan)

    def test_of_all_turnings_the_one_with_the_least_reach_that_keeps(self):
        for program in PROGRAMS:
            for nest in range(len(program[1])):
                orders = [order_of(program, turned_by(program, nest, turning)) for turning in turnings(program, nest)]
                kept = [reach(program, order) for order in orders if broken(program, order) is None]
                far, turning = best(program, nest)
                self.assertEqual(far, min(kept))
                self.assertEqual(reach(program, order_of(program, turned_by(program, nest, turning))), far)

    def test_what_is_told_may_be_handed_in(self):
        for program in PROGRAMS:
            same = read(shown(program))
            self.assertEqual(program_of(*same), program)
            self.assertEqual(order_of(same, plain_plan(same)), plain(program))
            told = rounds(same)[0]
            self.assertIsNone(broken(same, [step for listed in told for step in listed]))
            traces = traced(same, needed(same, all_cells(same)))
            self.assertEqual(needed(same, list(traces)), needed(same, all_cells(same)))


# What is told, written out, by a Python of its own.
ASKED = """
import sys
sys.path[:0] = sys.argv[1:]
from test_whole import *
for program in PROGRAMS:
    order = plain(program)[::-1]
    nests = range(len(program[1]))
    print(shown(program), traced(program, order), run(program, order, {}), pairs(program), rounds(program))
    print(compared(program, order, plain(program)), needed(program, all_cells(program)), broken(program, order))
    print([(best(program, nest), freeing(program, nest)) for nest in nests], led(program, plain(program)))
"""


class NoChance(unittest.TestCase):
    def test_another_run_tells_the_same(self):
        answers = []
        for seed in ("0", "1", "4711"):
            told = subprocess.run(
                [sys.executable, "-B", "-c", ASKED, TOP, os.path.join(TOP, "tests")], capture_output=True, text=True,
                env={**os.environ, "PYTHONHASHSEED": seed}, check=True, stdin=subprocess.DEVNULL)
            answers.append(told.stdout)
        self.assertGreater(len(answers[0]), 1000)
        self.assertEqual(answers, answers[:1] * 3)


if __name__ == "__main__":
    unittest.main()
