import copy
import itertools
import unittest

from nestturn.errors import NoOrder, NoPlan, NoProgram, NoRow, NoText, NoTurn, Tied, TooMany, TurnError
from nestturn.programs import cells_of, program_of
from nestturn.runs import plain, run
from nestturn.traces import traced
from samples import CELLS, NO_COUNTS, PROGRAM, SIXTY_COUNTS, one_nest, plain_nest, some_programs

EMPTY = program_of((1,), (plain_nest(NO_COUNTS),))
THREE = (((0,), (3,)),)
A0, A1, A2, A3 = (0, (0,)), (0, (1,)), (0, (2,)), (0, (3,))
B01, B10, B2 = (1, (0, 1)), (1, (1, 0)), (1, (2, -1))
PLAIN_TRACES = {
    A0: (26, [(A1, -1)]), A1: (30, [(A1, -1)]), A2: (40, [(A2, -1)]),
    B01: (15, [(A1, -1)]), B10: (21, [(A2, -1)]), B2: (27, [(A3, -1)]),
}


def ends_by_traces(traces, filling):
    """The ends as the document tells them from traces."""
    ends = {}
    for cell, (number, parts) in traces.items():
        for part, factor in parts:
            number += factor * filling.get(part, 0)
        ends[cell] = number
    return ends


class Traces(unittest.TestCase):
    def test_the_plain_order(self):
        self.assertEqual(traced(PROGRAM, plain(PROGRAM)), PLAIN_TRACES)

    def test_the_order_the_other_way_round(self):
        self.assertEqual(
            traced(PROGRAM, [8, 7, 6, 5, 4, 3, 2, 1, 0]),
            {A0: (5, []), A1: (7, []), A2: (9, []),
             B01: (-4, [(A0, 6), (B01, 3)]), B10: (-6, [(A1, 6), (B01, 3)]),
             B2: (3, [(A2, 6), (A3, -1), (B10, 3)])})

    def test_a_row_of_some_steps_tells_their_cells_alone(self):
        self.assertEqual(traced(PROGRAM, [1]), {B01: (0, [(A0, 3), (A1, -1)])})
        self.assertEqual(traced(PROGRAM, [7, 1]), {A1: (1, [(A1, 2), (B01, 1)]), B01: (-1, [(A0, 3), (A1, -2), (B01, -1)])})
        self.assertEqual(traced(PROGRAM, [1, 7]), {A1: (1, [(A0, 3), (A1, 1)]), B01: (0, [(A0, 3), (A1, -1)])})

    def test_a_row_without_steps_and_a_program_without_steps(self):
        self.assertEqual(traced(PROGRAM, []), {})
        self.assertEqual(traced(EMPTY, []), {})

    def test_a_cell_that_depends_on_nothing_has_no_parts(self):
        self.assertEqual(traced(PROGRAM, [4]), {A2: (9, [])})

    def test_a_cell_set_to_0_is_told(self):
        self.assertEqual(traced(one_nest((0, ((4, 0),), (0, 0), ())), [0]), {(0, (4,)): (0, [])})

    def test_a_cell_that_keeps_what_it_held(self):
        self.assertEqual(traced(one_nest((0, ((4, 0),), (0, 0), ((1, 0, ((4, 0),)),))), [0]),
                         {(0, (4,)): (0, [((0, (4,)), 1)])})

    def test_a_step_that_reads_the_cell_it_sets(self):
        # x becomes 1 + 2 x three times.
        program = one_nest((0, ((0, 0),), (1, 0), ((2, 0, ((0, 0),)),)), loops=THREE)
        self.assertEqual(traced(program, [0, 1, 2]), {A0: (7, [(A0, 8)])})
        self.assertEqual(traced(program, [2, 0]), {A0: (3, [(A0, 4)])})

    def test_a_factor_of_0_is_no_part(self):
        program = one_nest((0, ((0, 0),), (5, 0), ((0, 0, ((1, 0),)), (3, 0, ((2, 0),)))))
        self.assertEqual(traced(program, [0]), {A0: (5, [(A2, 3)])})

    def test_reads_of_one_cell_are_one_part(self):
        program = one_nest((0, ((0, 0),), (0, 0), ((2, 0, ((1, 0),)), (5, 0, ((1, 1),)))))
        self.assertEqual(traced(program, [0]), {A0: (0, [(A1, 7)])})

    def test_reads_that_take_one_another_away_are_no_part(self):
        program = one_nest((0, ((0, 0),), (4, 0), ((2, 0, ((1, 0),)), (-2, 0, ((1, 0),)))))
        self.assertEqual(traced(program, [0]), {A0: (4, [])})

    def test_parts_that_fall_out_by_way_of_another_cell(self):
        # a1 = 2 a0 + a2; a3 = a1 - 2 a0: a2 alone is left.
        program = one_nest(
            (0, ((1, 0),), (0, 0), ((2, 0, ((0, 0),)), (1, 0, ((2, 0),)))),
            (0, ((3, 0),), (0, 0), ((1, 0, ((1, 0),)), (-2, 0, ((0, 0),)))))
        self.assertEqual(traced(program, [0, 1]), {A1: (0, [(A0, 2), (A2, 1)]), A3: (0, [(A2, 1)])})
        self.assertEqual(traced(program, [1, 0]), {A1: (0, [(A0, 2), (A2, 1)]), A3: (0, [(A0, -2), (A1, 1)])})

    def test_the_last_setting_counts(self):
        program = one_nest((0, ((0, 0),), (0, 1), ()), loops=THREE)
        self.assertEqual(traced(program, [0, 1, 2]), {A0: (2, [])})
        self.assertEqual(traced(program, [2, 1, 0]), {A0: (0, [])})

    def test_a_cell_keeps_what_was_read_when_the_read_cell_is_set_later(self):
        program = one_nest((0, ((1, 0),), (0, 0), ((1, 0, ((0, 0),)),)), (0, ((0, 0),), (9, 0), ()))
        self.assertEqual(traced(program, [0, 1]), {A1: (0, [(A0, 1)]), A0: (9, [])})

    def test_parts_go_by_cells_as_tuples_are_compared(self):
        program = one_nest(
            (0, ((0, 0),), (0, 0), ((1, 1, ((0, 0), (5, 0))), (2, 0, ((10, 0),)), (3, 0, ((-3, 0),)))),
            (0, ((1, 0),), (0, 0), ((1, 0, ((0, 0),)), (1, 1, ((0, 0), (-5, 0))), (1, 0, ((2, 0),)))), widths=(1, 2))
        self.assertEqual(
            traced(program, [0, 1])[A1],
            (0, [((0, (-3,)), 3), ((0, (2,)), 1), ((0, (10,)), 2), ((1, (0, -5)), 1), ((1, (0, 5)), 1)]))

    def test_numbers_have_as_many_figures_as_they_need(self):
        big = int("9" * 30)
        deed = (0, ((0, 0, 0, 0),), (big, 0, 0, 0), ((big, 0, ((0, 0, 0, 0),)),))
        program = one_nest(deed, loops=SIXTY_COUNTS)
        number, factor = 0, 1
        for step in range(60):
            number, factor = big + big * number, big * factor
        self.assertEqual(traced(program, plain(program)), {A0: (number, [(A0, factor)])})

    def test_kinds(self):
        told = traced(PROGRAM, [1, 7])
        self.assertIsInstance(told, dict)
        for trace in told.values():
            self.assertIsInstance(trace, tuple)
            self.assertIsInstance(trace[1], list)
            self.assertTrue(all(isinstance(part, tuple) for part in trace[1]))


def fillings(program):
    """Fillings in which cells hold unlike numbers: none, all that the program names, some, and great ones."""
    named = sorted({cell for one, reads in cells_of(program) for cell in [one] + reads})
    return [
        {},
        {cell: 3 * at * at + 1 for at, cell in enumerate(named)},
        {cell: -7 - at for at, cell in enumerate(named) if at % 2},
        {cell: 10 ** (40 + at % 19) + at for at, cell in enumerate(named)},
    ]


def rows(program):
    order = plain(program)
    return [order, order[::-1], order[::2], order[1::3] + order[::3], order[len(order) // 2:] + order[:len(order) // 2]]


class LikeRuns(unittest.TestCase):
    def test_traces_tell_what_run_tells(self):
        for program in some_programs() + [PROGRAM]:
            program_of(program[0], program[1])
            for row, filling in itertools.product(rows(program), fillings(program)):
                self.assertEqual(ends_by_traces(traced(program, row), filling), run(program, row, filling), (program, row))

    def test_parts_are_rising_and_without_0(self):
        for program in some_programs():
            for row in rows(program):
                for number, parts in traced(program, row).values():
                    cells = [cell for cell, factor in parts]
                    self.assertEqual(cells, sorted(set(cells)))
                    self.assertNotIn(0, [factor for cell, factor in parts])

    def test_just_the_cells_set_by_the_row(self):
        for row in ([], [0], [0, 6], [5, 3, 1], list(range(9))):
            self.assertEqual(set(traced(PROGRAM, row)), {CELLS[step][0] for step in row})


class NoRows(unittest.TestCase):
    def refused(self, program, row):
        with self.assertRaises(TurnError, msg=row) as taken:
            traced(program, row)
        for other in (NoProgram, TooMany, NoOrder, NoPlan, Tied, NoTurn, NoText, NoRow):
            self.assertEqual(isinstance(taken.exception, other), other is NoOrder, row)

    def test_rows_that_are_none(self):
        for row in ([0, 0], [8, 7, 8], [-1], [0, -1], [9], [0, 10 ** 50], list(range(10)), list(range(9)) + [4]):
            self.refused(PROGRAM, row)

    def test_no_step_is_there_without_steps(self):
        for row in ([0], [-1]):
            self.refused(EMPTY, row)

    def test_what_is_no_list_of_whole_numbers(self):
        for row in ([True], [False, 2], [None], (0, 1), None):
            self.refused(PROGRAM, row)


class NothingKept(unittest.TestCase):
    def test_what_is_handed_in_stays_as_it_was(self):
        program = copy.deepcopy(PROGRAM)
        row = [3, 0, 8]
        traced(program, row)
        self.assertEqual((program, row), (PROGRAM, [3, 0, 8]))

    def test_changing_what_is_told_changes_no_later_answer(self):
        told = traced(PROGRAM, plain(PROGRAM))
        for number, parts in told.values():
            parts.append("more")
            parts[0] = None
        told.pop(A0)
        told[A1] = None
        self.assertEqual(traced(PROGRAM, plain(PROGRAM)), PLAIN_TRACES)

    def test_no_two_told_lists_are_one(self):
        # Two cells that are both set to what one cell holds.
        copied = ((1, 0, ((0, 0),)),)
        program = one_nest((0, ((1, 0),), (0, 0), copied), (0, ((2, 0),), (0, 0), ((1, 0, ((1, 0),)),)))
        told = traced(program, [0, 1])
        told[A1][1].append("more")
        self.assertEqual(told[A2], (0, [(A0, 1)]))

    def test_changing_the_row_changes_nothing_told(self):
        row = [1]
        told = traced(PROGRAM, row)
        row.append(0)
        self.assertEqual(told, {B01: (0, [(A0, 3), (A1, -1)])})

    def test_asked_again_the_same_is_told(self):
        one = traced(PROGRAM, plain(PROGRAM))
        other = traced(copy.deepcopy(PROGRAM), list(range(9)))
        self.assertEqual(one, other)
        self.assertIsNot(one, other)


if __name__ == "__main__":
    unittest.main()
