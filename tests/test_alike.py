import copy
import itertools
import unittest

from nestturn.alike import compared
from nestturn.errors import NoOrder
from nestturn.keeping import broken
from nestturn.programs import cells_of, program_of
from nestturn.runs import plain, run
from refusing import Refusing
from samples import (
    CELLS, NO_COUNTS, ONE_LOOP, PROGRAM, SIXTY_COUNTS, TRIPLE, at, one_nest, plain_nest, some_programs,
)

EMPTY = program_of((1,), (plain_nest(NO_COUNTS),))
PLAIN = list(range(9))
A0, A1, A2 = (0, (0,)), (0, (1,)), (0, (2,))
THREE = (((0,), (3,)),)


def times(place, *reads, start=0):
    """A deed that sets the cell at the place to start and the sum of factors times cells, told as (factor, place)."""
    return (0, ((place, 0),), (start, 0), tuple((factor, 0, ((read, 0),)) for factor, read in reads))


def held(program, row, filling, cell):
    """What the cell holds in the end, by run."""
    return run(program, row, filling).get(cell, filling.get(cell, 0))


def named_cells(program):
    return sorted({cell for one, reads in cells_of(program) for cell in [one] + reads})


def are_alike(program, row, other):
    """By run alone: what comes out is a sum, so tables of 0 and those with one 1 tell all."""
    named = named_cells(program)
    for filling in [{}] + [{cell: 1} for cell in named]:
        for cell in named:
            if held(program, row, filling, cell) != held(program, other, filling, cell):
                return False
    return True


class Comparing(Refusing):
    def alike(self, program, row, other):
        self.assertEqual(compared(program, row, other), ("alike",))
        self.assertEqual(compared(program, other, row), ("alike",))

    def unlike_one_way(self, program, row, other):
        told = compared(program, row, other)
        self.assertIsInstance(told, tuple)
        self.assertEqual(len(told), 5, told)
        word, filling, cell, by_row, by_other = told
        self.assertEqual(word, "unlike")
        self.assertIsInstance(filling, dict)
        for filled, number in filling.items():
            self.is_cell(program, filled)
            self.assertIs(type(number), int)
        self.is_cell(program, cell)
        self.assertNotEqual(by_row, by_other)
        self.assertEqual(held(program, row, filling, cell), by_row)
        self.assertEqual(held(program, other, filling, cell), by_other)

    def is_cell(self, program, thing):
        self.assertIsInstance(thing, tuple)
        table, place = thing
        self.assertIn(table, range(len(program[0])))
        self.assertIsInstance(place, tuple)
        self.assertEqual(len(place), program[0][table])
        self.assertTrue(all(type(number) is int for number in place))

    def unlike(self, program, row, other):
        self.unlike_one_way(program, row, other)
        self.unlike_one_way(program, other, row)


class Alike(Comparing):
    def test_a_row_and_itself(self):
        for row in ([], [0], [5, 3], PLAIN, PLAIN[::-1], [8, 6, 7]):
            self.alike(PROGRAM, row, list(row))

    def test_orders_that_keep(self):
        orders = [PLAIN, [0, 1, 6, 2, 3, 4, 5, 7, 8], [0, 1, 2, 3, 7, 4, 5, 6, 8], [0, 1, 2, 3, 4, 5, 8, 7, 6]]
        for one, other in itertools.combinations(orders, 2):
            self.assertIsNone(broken(PROGRAM, one))
            self.alike(PROGRAM, one, other)
        self.alike(TRIPLE, list(range(8)), [1, 0, 4, 2, 3, 6, 5, 7])

    def test_no_steps(self):
        self.alike(EMPTY, [], [])
        self.alike(PROGRAM, [], [])

    def test_steps_that_set_a_cell_to_the_same(self):
        program = one_nest(at(0, start=5), at(0, start=5))
        self.assertEqual(broken(program, [1, 0]), (0, 1))
        self.alike(program, [0, 1], [1, 0])
        self.alike(program, [0], [1])
        self.alike(program, [0, 1], [1])

    def test_steps_that_add_to_a_cell(self):
        program = one_nest(times(0, (1, 0), start=3), times(0, (1, 0), (1, 1), start=-8), times(0, (1, 0), (-2, 2)))
        self.assertEqual(broken(program, [2, 1, 0]), (0, 1))
        for order in itertools.permutations(range(3)):
            self.alike(program, [0, 1, 2], list(order))

    def test_a_factor_of_0_is_as_none(self):
        program = one_nest(at(1, start=4), times(0, (0, 1), start=2))
        self.assertEqual(broken(program, [1, 0]), (0, 1))
        self.alike(program, [0, 1], [1, 0])

    def test_a_cell_that_keeps_what_it_holds_is_as_if_not_set(self):
        program = one_nest(times(4, (1, 4)), times(0, (3, 0), (-2, 0)), at(7))
        self.alike(program, [0], [])
        self.alike(program, [1, 0], [])
        self.alike(program, [2], [0, 1, 2])

    def test_a_step_that_is_set_over_may_be_left_out(self):
        program = one_nest(times(0, (7, 3), start=1), times(0, (2, 5)))
        self.alike(program, [0, 1], [1])
        self.unlike(program, [0, 1], [0])
        self.unlike(program, [0, 1], [1, 0])

    def test_steps_that_change_and_change_back(self):
        # a0 = a0 + 5; a0 = a0 - 5.
        program = one_nest(times(0, (1, 0), start=5), times(0, (1, 0), start=-5))
        self.alike(program, [0, 1], [])
        self.alike(program, [0, 1], [1, 0])
        self.unlike(program, [0], [])


class Unlike(Comparing):
    def test_the_other_way_round(self):
        self.unlike(PROGRAM, PLAIN, PLAIN[::-1])
        self.unlike(TRIPLE, list(range(8)), list(range(7, -1, -1)))

    def test_orders_that_break(self):
        for order in ([1, 0, 2, 3, 4, 5, 6, 7, 8], [0, 1, 2, 8, 4, 5, 6, 7, 3], [0, 1, 2, 3, 4, 5, 6, 7, 8][::-1]):
            self.unlike(PROGRAM, PLAIN, order)
        self.unlike(TRIPLE, list(range(8)), [1, 0, 4, 2, 3, 6, 7, 5])

    def test_numbers_that_are_unlike(self):
        program = one_nest(at(0, start=5), at(0, start=6))
        told = compared(program, [0, 1], [1, 0])
        self.assertEqual((told[0], told[2:]), ("unlike", (A0, 6, 5)))
        told = compared(program, [1, 0], [0, 1])
        self.assertEqual((told[0], told[2:]), ("unlike", (A0, 5, 6)))

    def test_factors_that_are_unlike(self):
        # a0 = 2 a1; a0 = 3 a1: unlike just where a1 doesn't hold 0.
        program = one_nest(times(0, (2, 1), start=4), times(0, (3, 1), start=4))
        self.unlike(program, [0], [1])
        told = compared(program, [0, 1], [1, 0])
        self.assertEqual(told[2], A0)
        x = told[1][A1]
        self.assertNotEqual(x, 0)
        self.assertEqual(told[3:], (4 + 3 * x, 4 + 2 * x))

    def test_factors_of_unlike_cells(self):
        # a0 = a1; a0 = a2: numbers that are the same in both cells don't tell.
        program = one_nest(at(0, 1), at(0, 2))
        self.unlike(program, [0], [1])
        told = compared(program, [0], [1])[1]
        self.assertNotEqual(told.get(A1, 0), told.get(A2, 0))

    def test_factors_with_one_sum(self):
        # a0 = 3 a1 + a2; a0 = 2 a1 + 2 a2.
        program = one_nest(times(0, (3, 1), (1, 2)), times(0, (2, 1), (2, 2)))
        self.unlike(program, [0], [1])
        self.unlike(program, [0, 1], [1, 0])

    def test_numbers_and_factors_that_could_make_up_for_one_another(self):
        # a0 = 1 + a1; a0 = 2: the same where a1 holds 1.
        program = one_nest(at(0, 1, start=1), at(0, start=2))
        self.unlike(program, [0], [1])
        # a0 = -1 + a1; a0 = 0.
        program = one_nest(at(0, 1, start=-1), at(0))
        self.unlike(program, [0], [1])

    def test_great_factors(self):
        great = int("9" * 30)
        program = one_nest(times(0, (great, 1)), times(0, (great - 1, 1)))
        self.unlike(program, [0], [1])
        deed = (0, ((0, 0, 0, 0),), (great, 0, 0, -1), ((great, 0, ((0, 0, 0, 0),)),))
        program = one_nest(deed, loops=SIXTY_COUNTS)
        self.unlike(program, plain(program), plain(program)[::-1])

    def test_the_first_cells_may_be_alike(self):
        program = one_nest(at(-5, start=1), at(3, start=1), at(3, start=2), at(9, start=7))
        self.unlike(program, [0, 1, 2, 3], [0, 2, 1, 3])
        self.assertEqual(compared(program, [0, 1, 2, 3], [3, 2, 1, 0])[2:], ((0, (3,)), 2, 1))


class Rows(Comparing):
    def test_rows_of_some_of_the_steps(self):
        self.unlike(PROGRAM, [0], [])
        self.unlike(PROGRAM, [0, 2], [0, 4])
        self.unlike(PROGRAM, PLAIN, PLAIN[:-1])
        self.alike(PROGRAM, [0, 2, 4], [4, 0, 2])
        self.alike(PROGRAM, [2, 3, 7], [2, 3, 7])
        self.unlike(PROGRAM, [2, 3, 7], [3, 2, 7])
        # 6 sets a0 behind 0: with 6 alone it reads what the filling has.
        self.unlike(PROGRAM, [0, 6], [6])
        self.unlike(PROGRAM, [0, 6], [0])

    def test_a_row_without_steps(self):
        for step in range(9):
            self.unlike(PROGRAM, [step], [])

    def test_a_cell_set_to_0_against_one_that_is_not_set(self):
        program = one_nest(at(0))
        told = compared(program, [0], [])
        self.assertEqual(told[2], A0)
        self.assertEqual(told[3:], (0, told[1][A0]))
        self.unlike(program, [0], [])

    def test_a_cell_that_one_row_alone_sets(self):
        program = one_nest(times(0, (1, 0), (1, 1)), times(0, (1, 1)), times(2, (1, 0)))
        self.unlike(program, [0], [])
        self.unlike(program, [1], [])
        self.unlike(program, [2, 0], [0])
        self.unlike(program, [2, 0], [0, 2])

    def test_tables_with_the_same_place_are_apart(self):
        program = one_nest(at(0, start=3), (1, ((0, 0),), (3, 0), ()), widths=(1, 1))
        self.unlike(program, [0], [1])
        self.alike(program, [0, 1], [1, 0])

    def test_a_table_two_wide(self):
        program = one_nest(
            (1, ((0, 1), (0, 0)), (0, 0), ((1, 1, ((1, 0), (0, 1))),)), loops=THREE, widths=(1, 2))
        for one, other in itertools.combinations(itertools.permutations(range(3)), 2):
            wanted = are_alike(program, list(one), list(other))
            (self.alike if wanted else self.unlike)(program, list(one), list(other))


class ByRuns(Comparing):
    """All rows, and rows of families, looked at by run alone."""

    def look(self, program, row, other):
        if are_alike(program, row, other):
            self.alike(program, row, other)
        else:
            self.unlike(program, row, other)

    def test_each_two_rows_of_small_programs(self):
        small = [
            one_nest(at(0, 1), at(1, 0), at(0, 0)), one_nest(at(0, 0, start=1), at(0, 0, 0), at(1, 0)),
            one_nest(times(0, (-1, 0)), times(0, (-1, 0), start=2), times(0, (1, 1))),
            program_of((1, 1), ((ONE_LOOP, (at(0, 5), (1, ((0, 0),), (0, 0), ((1, 0, ((0, 0),)),)))),
                                (ONE_LOOP, (at(5, 0),)))),
        ]
        rows = [list(row) for length in range(4) for row in itertools.permutations(range(3), length)]
        for program in small:
            for row, other in itertools.product(rows, repeat=2):
                self.look(program, row, other)

    def test_rows_of_some_programs(self):
        found = set()
        for program in some_programs()[::3] + [PROGRAM, TRIPLE]:
            order = plain(program)
            half = len(order) // 2
            rows = [order, order[::-1], order[half:] + order[:half], order[::2], order[1:], order[:-1]]
            if half:
                rows.append(order[:half - 1] + [order[half], order[half - 1]] + order[half + 1:])
            for row, other in itertools.combinations(rows, 2):
                self.look(program, row, other)
                found.add(compared(program, row, other)[0])
        self.assertEqual(found, {"alike", "unlike"})

    def test_orders_that_keep_are_alike(self):
        for program in (one_nest(at(0, 1), at(1, 2), at(2, 3), at(5, 5)), one_nest(at(0), at(1, 0), at(2, 0), at(0, 2))):
            for order in itertools.permutations(range(4)):
                if broken(program, list(order)) is None:
                    self.alike(program, [0, 1, 2, 3], list(order))
                else:
                    self.look(program, [0, 1, 2, 3], list(order))


class NoRows(Refusing):
    def test_lists_that_are_no_rows(self):
        for row in ([0, 0], PLAIN + [4], [8, 7, 8], [-1], [0, -1], [9], [99], [0, 10 ** 59], [-10 ** 59], PLAIN + [9]):
            for other in ([], [0], PLAIN, row):
                self.refused(NoOrder, compared, PROGRAM, row, other)
                self.refused(NoOrder, compared, PROGRAM, other, row)

    def test_no_step_is_there_without_steps(self):
        for row in ([0], [-1]):
            self.refused(NoOrder, compared, EMPTY, row, [])
            self.refused(NoOrder, compared, EMPTY, [], row)

    def test_what_is_no_list_of_whole_numbers(self):
        for row in ([True], [False, 2], [None], (0, 1), None):
            self.refused(NoOrder, compared, PROGRAM, row, [0])
            self.refused(NoOrder, compared, PROGRAM, [0], row)


class NothingKept(Refusing):
    def test_what_is_handed_in_stays_and_equal_things_are_told_again(self):
        program = copy.deepcopy(PROGRAM)
        for one, two in ((PLAIN, PLAIN[::-1]), ([0, 2], [2, 0]), ([8], []), (PLAIN, PLAIN)):
            row, other = list(one), list(two)
            told = compared(program, row, other)
            self.assertEqual((program, row, other), (PROGRAM, one, two))
            self.assertEqual(compared(program, row, other), told)
            self.assertEqual(compared(PROGRAM, one, two), told)

    def test_changing_what_is_told_changes_no_later_answer(self):
        program = one_nest(at(0, 1), at(0, 2))
        told = compared(program, [0], [1])
        kept = copy.deepcopy(told)
        told[1][A0] = 1000
        self.assertEqual(compared(program, [0], [1]), kept)
        told = compared(PROGRAM, [0], [])
        kept = copy.deepcopy(told)
        told[1][A2] = 1000
        self.assertEqual(compared(PROGRAM, [0], []), kept)

    def test_changing_a_row_changes_nothing_told(self):
        row, other = [0], []
        told = compared(PROGRAM, row, other)
        kept = copy.deepcopy(told)
        row.clear()
        other.append(8)
        self.assertEqual(told, kept)

    def test_one_list_as_both_rows(self):
        row = list(PLAIN)
        self.assertEqual(compared(PROGRAM, row, row), ("alike",))
        self.assertEqual(row, PLAIN)

    def test_the_filling_may_be_run(self):
        told = compared(PROGRAM, PLAIN, PLAIN[::-1])
        self.assertIn(told[2], {cell for cell, reads in CELLS})
        self.assertEqual(run(PROGRAM, PLAIN, told[1])[told[2]], told[3])
        self.assertEqual(run(PROGRAM, PLAIN[::-1], told[1])[told[2]], told[4])


if __name__ == "__main__":
    unittest.main()
