import copy
import unittest

from nestturn.errors import NoOrder, NoPlan, NoProgram, NoRow, NoText, NoTurn, Tied, TooMany, TurnError
from nestturn.programs import program_of, steps_of
from nestturn.runs import plain, run
from samples import CELLS, NO_COUNTS, PROGRAM, SIXTY_COUNTS, one_nest, plain_nest

FILLING = {(0, (1,)): 10, (0, (3,)): 4, (1, (9, 9)): 7}
EMPTY = program_of((1,), (plain_nest(NO_COUNTS),))
THREE = (((0,), (3,)),)


class Plain(unittest.TestCase):
    def test_it_has_all_steps_rising(self):
        self.assertEqual(plain(PROGRAM), [0, 1, 2, 3, 4, 5, 6, 7, 8])

    def test_no_steps_and_sixty(self):
        self.assertEqual(plain(EMPTY), [])
        self.assertEqual(plain(program_of((1,), (plain_nest(SIXTY_COUNTS),))), list(range(60)))

    def test_the_list_is_the_askers_own(self):
        told = plain(PROGRAM)
        self.assertIsInstance(told, list)
        told.reverse()
        told.append(99)
        self.assertEqual(plain(PROGRAM), [0, 1, 2, 3, 4, 5, 6, 7, 8])


class Run(unittest.TestCase):
    def test_the_plain_order(self):
        self.assertEqual(
            run(PROGRAM, plain(PROGRAM), FILLING),
            {(0, (0,)): 16, (0, (1,)): 20, (0, (2,)): 40, (1, (0, 1)): 5, (1, (1, 0)): 21, (1, (2, -1)): 23})

    def test_the_order_the_other_way_round(self):
        self.assertEqual(
            run(PROGRAM, [8, 7, 6, 5, 4, 3, 2, 1, 0], FILLING),
            {(0, (0,)): 5, (0, (1,)): 7, (0, (2,)): 9, (1, (0, 1)): -4, (1, (1, 0)): 54, (1, (2, -1)): -1})

    def test_a_row_of_some_steps_tells_their_cells_alone(self):
        self.assertEqual(run(PROGRAM, [1, 5], FILLING), {(1, (0, 1)): -10, (1, (2, -1)): -4})
        self.assertEqual(run(PROGRAM, [7, 1], FILLING), {(0, (1,)): 21, (1, (0, 1)): -21})
        self.assertEqual(run(PROGRAM, [1, 7], FILLING), {(0, (1,)): 11, (1, (0, 1)): -10})

    def test_a_row_without_steps(self):
        self.assertEqual(run(PROGRAM, [], FILLING), {})
        self.assertEqual(run(EMPTY, [], FILLING), {})

    def test_cells_that_the_filling_has_not_hold_0(self):
        self.assertEqual(run(PROGRAM, [8], {}), {(0, (2,)): 1})
        self.assertEqual(run(PROGRAM, [8], {(0, (2,)): 3}), {(0, (2,)): 7})
        self.assertEqual(run(PROGRAM, [8], {(0, (2,)): 3, (1, (1, 0)): 100}), {(0, (2,)): 107})

    def test_a_cell_set_to_0_is_told(self):
        self.assertEqual(run(one_nest((0, ((4, 0),), (0, 0), ())), [0], {(0, (4,)): 9}), {(0, (4,)): 0})

    def test_a_step_that_reads_the_cell_it_sets(self):
        # x becomes 1 + 2 x three times.
        program = one_nest((0, ((0, 0),), (1, 0), ((2, 0, ((0, 0),)),)), loops=THREE)
        self.assertEqual(run(program, [0, 1, 2], {(0, (0,)): 5}), {(0, (0,)): 47})
        self.assertEqual(run(program, [2, 0], {(0, (0,)): 5}), {(0, (0,)): 23})

    def test_all_is_read_ahead_of_the_setting(self):
        place = ((0, 0),)
        program = one_nest((0, place, (1, 0), ((1, 0, place), (1, 0, place), (1, 0, place))))
        self.assertEqual(run(program, [0], {(0, (0,)): 10}), {(0, (0,)): 31})

    def test_two_reads_of_one_cell_both_go_in(self):
        program = one_nest((0, ((0, 0),), (0, 0), ((2, 0, ((1, 0),)), (5, 0, ((1, 1),)))))
        self.assertEqual(run(program, [0], {(0, (1,)): 3}), {(0, (0,)): 21})

    def test_each_read_has_its_own_factor(self):
        program = one_nest((0, ((0, 0),), (4, 0), ((1, 0, ((1, 0),)), (-10, 0, ((2, 0),)), (0, 0, ((3, 0),)))))
        self.assertEqual(run(program, [0], {(0, (1,)): 3, (0, (2,)): 5, (0, (3,)): 7}), {(0, (0,)): -43})

    def test_start_goes_with_the_counts(self):
        program = one_nest((0, ((0, 1),), (7, -3), ()), loops=(((-1,), (2,)),))
        self.assertEqual(run(program, [0, 1, 2], {}), {(0, (-1,)): 10, (0, (0,)): 7, (0, (1,)): 4})

    def test_the_last_setting_counts(self):
        program = one_nest((0, ((0, 0),), (0, 1), ()), loops=THREE)
        self.assertEqual(run(program, [0, 1, 2], {}), {(0, (0,)): 2})
        self.assertEqual(run(program, [2, 1, 0], {}), {(0, (0,)): 0})
        self.assertEqual(run(program, [0, 2, 1], {}), {(0, (0,)): 1})

    def test_tables_with_the_same_place_are_kept_apart(self):
        program = one_nest((0, ((0, 0),), (1, 0), ((1, 1, ((0, 0),)),)), widths=(1, 1))
        self.assertEqual(run(program, [0], {(0, (0,)): 50, (1, (0,)): 6}), {(0, (0,)): 7})

    def test_numbers_have_as_many_figures_as_they_need(self):
        big = int("9" * 30)
        place = ((0, 0),)
        program = one_nest((0, place, (big, 0), ((-big, 0, place),)), loops=THREE)
        x = 10 ** 59
        for step in range(3):
            x = big - big * x
        self.assertEqual(run(program, [0, 1, 2], {(0, (0,)): 10 ** 59}), {(0, (0,)): x})

    def test_sixty_steps(self):
        # x becomes x + 1 sixty times.
        deed = (0, ((0, 0, 0, 0),), (1, 0, 0, 0), ((1, 0, ((0, 0, 0, 0),)),))
        program = one_nest(deed, loops=SIXTY_COUNTS)
        self.assertEqual(run(program, list(range(59, -1, -1)), {(0, (0,)): -60}), {(0, (0,)): 0})

    def test_ends_have_just_the_cells_set_by_the_row(self):
        for row in ([], [0], [0, 6], [5, 3, 1], list(range(9))):
            told = run(PROGRAM, row, FILLING)
            self.assertEqual(set(told), {CELLS[step][0] for step in row})


class NoRows(unittest.TestCase):
    def refused(self, program, row):
        with self.assertRaises(TurnError, msg=row) as taken:
            run(program, row, FILLING)
        self.assertIsInstance(taken.exception, ValueError)
        for other in (NoProgram, TooMany, NoOrder, NoPlan, Tied, NoTurn, NoText, NoRow):
            self.assertEqual(isinstance(taken.exception, other), other is NoOrder, row)

    def test_a_step_twice(self):
        for row in ([0, 0], [0, 1, 0], [8, 7, 8], list(range(9)) + [4]):
            self.refused(PROGRAM, row)

    def test_a_step_below_0(self):
        for row in ([-1], [0, 1, -1], [-9], [-10 ** 50]):
            self.refused(PROGRAM, row)

    def test_a_step_that_is_not_there(self):
        for row in ([9], [0, 9], [10 ** 50], list(range(10))):
            self.refused(PROGRAM, row)

    def test_no_step_is_there_without_steps(self):
        for row in ([0], [1], [-1]):
            self.refused(EMPTY, row)

    def test_what_is_no_list_of_whole_numbers(self):
        for row in ([True], [False, 2], [None], ["0"], [0.0], [[0]], (0, 1), None, "01", {0: 1}):
            self.refused(PROGRAM, row)


class NothingKept(unittest.TestCase):
    def test_what_is_handed_in_stays_as_it_was(self):
        program = copy.deepcopy(PROGRAM)
        row = [3, 0, 8]
        filling = dict(FILLING)
        run(program, row, filling)
        self.assertEqual((program, row, filling), (PROGRAM, [3, 0, 8], FILLING))
        with self.assertRaises(NoOrder):
            run(program, row + [3], filling)
        self.assertEqual((row, filling), ([3, 0, 8], FILLING))

    def test_the_filling_stays_when_its_own_cells_are_set(self):
        filling = {(0, (0,)): 1, (0, (1,)): 2}
        run(PROGRAM, plain(PROGRAM), filling)
        self.assertEqual(filling, {(0, (0,)): 1, (0, (1,)): 2})

    def test_changing_the_told_dict_changes_no_later_answer(self):
        told = run(PROGRAM, [0, 1], FILLING)
        told[(0, (0,))] = 1000
        told[(1, (5, 5))] = 1
        self.assertEqual(run(PROGRAM, [0, 1], FILLING), {(0, (0,)): 5, (1, (0, 1)): 5})

    def test_changing_what_was_handed_in_changes_nothing_told(self):
        filling = dict(FILLING)
        row = [1]
        told = run(PROGRAM, row, filling)
        filling.clear()
        row.append(0)
        self.assertEqual(told, {(1, (0, 1)): -10})
        self.assertEqual(run(PROGRAM, [1], filling), {(1, (0, 1)): 0})

    def test_asked_again_the_same_is_told(self):
        one = run(PROGRAM, plain(PROGRAM), FILLING)
        other = run(copy.deepcopy(PROGRAM), list(range(len(steps_of(PROGRAM)))), dict(reversed(list(FILLING.items()))))
        self.assertEqual(one, other)
        self.assertIsNot(one, other)

    def test_ends_may_be_handed_in_as_a_filling(self):
        first = run(PROGRAM, [0, 2], {})
        self.assertEqual(run(PROGRAM, [1], first), {(1, (0, 1)): 8})


if __name__ == "__main__":
    unittest.main()
