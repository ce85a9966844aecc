import copy
import itertools
import unittest

from nestturn.needs import needed
from nestturn.programs import cells_of, program_of
from nestturn.runs import plain, run
from nestturn.touch import sources
from nestturn.traces import traced
from samples import (
    CELLS, NO_COUNTS, PROGRAM, SIXTY_COUNTS, TRIPLE, at, one_nest, plain_nest, some_programs,
)

EMPTY = program_of((1,), (plain_nest(NO_COUNTS),))
EMPTY_OF_THREE = program_of((1, 2, 1), (plain_nest(NO_COUNTS), plain_nest(NO_COUNTS, 4), plain_nest(NO_COUNTS)))
GREATEST = int("9" * 60)


def a(*place):
    return (0, place)


def b(*place):
    return (1, place)


def c(*place):
    return (2, place)


def cells_told(program):
    """Each cell that a step sets or reads, and some that none does."""
    told = {a(77), a(-GREATEST)}
    for cell, reads in cells_of(program):
        told |= {cell, *reads}
    return sorted(told)


def needed_by_the_words(program, cells):
    setting = [told[0] for told in cells_of(program)]
    wanted = {max(step for step, cell in enumerate(setting) if cell == asked) for asked in cells if asked in setting}
    while True:
        more = {source for step in wanted for source in sources(program)[step] if source is not None}
        if more <= wanted:
            return sorted(wanted)
        wanted |= more


def held(program, row, filling, cell):
    return run(program, row, filling).get(cell, filling.get(cell, 0))


def fillings(program):
    cells = cells_told(program)
    return [
        {}, {cell: 1 for cell in cells}, {cell: 3 ** at - 5 for at, cell in enumerate(cells)},
        {cell: (-1) ** at * (GREATEST - at) for at, cell in enumerate(cells)}, {cell: 7 for cell in cells[::2]},
    ]


class Needed(unittest.TestCase):
    def test_each_cell_of_a_program(self):
        wanted = {
            a(0): [0, 1, 6], a(1): [0, 1, 2, 7], a(2): [2, 3, 4, 8], a(3): [],
            b(0, 1): [0, 1], b(1, 0): [2, 3], b(2, -1): [4, 5],
        }
        for cell, told in wanted.items():
            self.assertEqual(needed(PROGRAM, [cell]), told, cell)

    def test_several_cells(self):
        self.assertEqual(needed(PROGRAM, [a(0), a(1)]), [0, 1, 2, 6, 7])
        self.assertEqual(needed(PROGRAM, [a(2), b(2, -1)]), [2, 3, 4, 5, 8])
        self.assertEqual(needed(PROGRAM, [a(0), a(1), a(2)]), [0, 1, 2, 3, 4, 6, 7, 8])
        self.assertEqual(needed(PROGRAM, [cell for cell, reads in CELLS]), list(range(9)))

    def test_three_nests_and_tables(self):
        wanted = {
            a(0): [0, 1, 2, 3, 6], a(1): [0, 1, 2, 3, 4, 5, 6, 7], b(1, 0): [0, 2], b(2, 0): [1, 4], c(0): [],
            c(1): [0, 2, 3], c(2): [0, 1, 2, 3, 4, 5],
        }
        for cell, told in wanted.items():
            self.assertEqual(needed(TRIPLE, [cell]), told, cell)
        self.assertEqual(needed(TRIPLE, [b(2, 0), c(1)]), [0, 1, 2, 3, 4])

    def test_no_cells(self):
        for program in (PROGRAM, TRIPLE, EMPTY, one_nest(at(0))):
            self.assertEqual(needed(program, []), [])

    def test_cells_that_no_step_sets(self):
        for cell in (a(3), a(50), a(-1), a(GREATEST), a(-GREATEST), b(0, 0), b(-1, 2), b(1, 0 - GREATEST)):
            self.assertEqual(needed(PROGRAM, [cell]), [], cell)
        # The places of b are set turned about, and a cell of the other table at no place.
        self.assertEqual(needed(TRIPLE, [b(0, 1), b(0, 2), c(0), c(3), a(2)]), [])

    def test_cells_that_are_read_alone(self):
        program = one_nest(at(0, 5), at(1, 6, 0))
        self.assertEqual(needed(program, [a(5), a(6)]), [])
        self.assertEqual(needed(program, [a(5), a(1)]), [0, 1])

    def test_cells_told_more_than_once(self):
        self.assertEqual(needed(PROGRAM, [a(0), a(0), a(3), a(0), a(3)]), [0, 1, 6])
        self.assertEqual(needed(PROGRAM, [b(1, 0)] * 300), [2, 3])

    def test_whichever_cell_is_told_first(self):
        cells = [a(0), a(2), a(3), b(2, -1)]
        for turned in itertools.permutations(cells):
            self.assertEqual(needed(PROGRAM, list(turned)), [0, 1, 2, 3, 4, 5, 6, 8])

    def test_a_cell_that_is_set_more_than_once(self):
        self.assertEqual(needed(one_nest(at(0), at(0), at(0)), [a(0)]), [2])
        self.assertEqual(needed(one_nest(at(0), at(0, 0), at(0)), [a(0)]), [2])
        self.assertEqual(needed(one_nest(at(0), at(0), at(0, 0)), [a(0)]), [1, 2])
        self.assertEqual(needed(one_nest(at(0), at(0, 0), at(0, 0)), [a(0)]), [0, 1, 2])

    def test_a_read_cell_that_is_set_again_behind(self):
        program = one_nest(at(0), at(1, 0), at(0), at(2, 0))
        self.assertEqual(needed(program, [a(0)]), [2])
        self.assertEqual(needed(program, [a(1)]), [0, 1])
        self.assertEqual(needed(program, [a(2)]), [2, 3])
        self.assertEqual(needed(program, [a(1), a(2)]), [0, 1, 2, 3])

    def test_a_step_that_is_needed_by_way_of_two_others(self):
        program = one_nest(at(0), at(1, 0), at(2, 0), at(3, 1, 2))
        self.assertEqual(needed(program, [a(3)]), [0, 1, 2, 3])
        self.assertEqual(needed(program, [a(1), a(2)]), [0, 1, 2])
        self.assertEqual(needed(program, [a(2)]), [0, 2])

    def test_a_cell_that_is_set_behind_what_reads_it(self):
        program = one_nest(at(0, 1), at(1))
        self.assertEqual(needed(program, [a(0)]), [0])
        self.assertEqual(needed(program, [a(0), a(1)]), [0, 1])

    def test_three_reads_and_one_cell_read_twice(self):
        program = one_nest(at(0), at(1), at(2), at(3, 2, 0, 1))
        self.assertEqual(needed(program, [a(3)]), [0, 1, 2, 3])
        self.assertEqual(needed(one_nest(at(0), at(1, 0, 0, 0)), [a(1)]), [0, 1])

    def test_a_read_times_nought_has_its_source_too(self):
        program = one_nest(at(0), (0, ((1, 0),), (0, 0), ((0, 0, ((0, 0),)),)))
        self.assertEqual(needed(program, [a(1)]), [0, 1])

    def test_a_program_without_steps(self):
        self.assertEqual(needed(EMPTY, [a(0), a(1), a(0)]), [])
        self.assertEqual(needed(EMPTY_OF_THREE, [a(0), b(0, 0), c(5)]), [])

    def test_a_nest_without_steps_ahead(self):
        program = program_of((1,), (plain_nest(NO_COUNTS), ((((0,), (2,)),), (at(0), at(1, 0)))))
        self.assertEqual(needed(program, [a(1)]), [2, 3])
        self.assertEqual(needed(program, [a(0)]), [2])

    def test_sixty_steps(self):
        place = (0, 12, 3, 1)
        chain = one_nest((0, (place,), (1, 0, 0, 0), ((1, 0, ((-1, 12, 3, 1),)),)), loops=SIXTY_COUNTS)
        self.assertEqual(needed(chain, [a(59)]), list(range(60)))
        self.assertEqual(needed(chain, [a(30), a(7)]), list(range(31)))
        self.assertEqual(needed(chain, [a(-1)]), [])
        two_back = one_nest((0, (place,), (1, 0, 0, 0), ((1, 0, ((-2, 12, 3, 1),)),)), loops=SIXTY_COUNTS)
        self.assertEqual(needed(two_back, [a(59)]), list(range(1, 60, 2)))
        self.assertEqual(needed(program_of((1,), (plain_nest(SIXTY_COUNTS),)), [a(0)]), [59])

    def test_as_the_words_tell(self):
        for program in some_programs() + [PROGRAM, TRIPLE]:
            cells = cells_told(program)
            for asked in [[cell] for cell in cells] + [cells, cells[::2], cells[1::3], cells[:3] * 2]:
                self.assertEqual(needed(program, asked), needed_by_the_words(program, asked))


class RunAlone(unittest.TestCase):
    def test_the_cells_hold_what_they_hold_when_all_is_run(self):
        for program in some_programs() + [PROGRAM, TRIPLE]:
            cells = cells_told(program)
            for asked in [[cell] for cell in cells] + [cells, cells[::2], cells[1::3]]:
                row = needed(program, asked)
                for filling in fillings(program):
                    for cell in asked:
                        self.assertEqual(held(program, row, filling, cell), held(program, plain(program), filling, cell))

    def test_whatever_the_filling(self):
        for program in some_programs() + [PROGRAM, TRIPLE]:
            whole = traced(program, plain(program))
            for cell in cells_told(program):
                self.assertEqual(traced(program, needed(program, [cell])).get(cell), whole.get(cell))

    def test_by_hand(self):
        # a[1] is 1 + 2 * 7 + b, and b is 3 * 5 less what was in a[1].
        self.assertEqual(run(PROGRAM, needed(PROGRAM, [a(1)]), {a(1): 4, b(0, 1): 90})[a(1)], 26)
        self.assertEqual(run(PROGRAM, plain(PROGRAM), {a(1): 4, b(0, 1): 90})[a(1)], 26)

    def test_none_of_them_can_be_left_out_here(self):
        for cell in (a(0), a(1), a(2), b(0, 1), b(1, 0), b(2, -1)):
            row = needed(PROGRAM, [cell])
            whole = traced(PROGRAM, plain(PROGRAM))[cell]
            for step in row:
                less = [kept for kept in row if kept != step]
                self.assertNotEqual(traced(PROGRAM, less).get(cell), whole, (cell, step))


class NothingKept(unittest.TestCase):
    def test_what_is_handed_in_stays_and_equal_things_are_told_again(self):
        program, cells = copy.deepcopy(PROGRAM), [a(1), a(0), a(1), a(3)]
        told = needed(program, cells)
        self.assertEqual((program, cells), (PROGRAM, [a(1), a(0), a(1), a(3)]))
        self.assertEqual(needed(program, cells), told)

    def test_changing_what_is_told_changes_no_later_answer(self):
        for program, cells, wanted in ((PROGRAM, [a(0)], [0, 1, 6]), (PROGRAM, [], []), (EMPTY, [a(0)], [])):
            told = needed(program, cells)
            told.append(99)
            self.assertIsNot(needed(program, cells), told)
            self.assertEqual(needed(program, cells), wanted)

    def test_changing_what_was_handed_in_changes_nothing_that_was_told(self):
        cells = [a(0)]
        told = needed(PROGRAM, cells)
        cells.append(a(1))
        self.assertEqual(told, [0, 1, 6])
        self.assertEqual(needed(PROGRAM, cells), [0, 1, 2, 6, 7])


if __name__ == "__main__":
    unittest.main()
