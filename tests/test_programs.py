import copy
import unittest

from nestturn.errors import NoOrder, NoPlan, NoProgram, NoRow, NoText, NoTurn, Tied, TooMany, TurnError
from nestturn.programs import cells_of, program_of, steps_of
from samples import (
    CELLS, NESTS, NO_COUNTS, NOT_TUPLE, NOT_WHOLE, ONE_LOOP, PROGRAM, SIXTY_COUNTS, STEPS, TWENTY_COUNTS, WIDTHS,
    Other, parts_of, plain_deed, plain_nest, with_part, zero_form,
)

ALL = (NoProgram, TooMany, NoOrder, NoPlan, Tied, NoTurn, NoText, NoRow)
PLACE_0 = ((0, 0),)


def nests_of_deed(deed, loops=ONE_LOOP):
    return ((loops, (deed,)),)


class Refusing(unittest.TestCase):
    def refused(self, kind, widths, nests):
        with self.assertRaises(TurnError, msg=(widths, nests)) as taken:
            program_of(widths, nests)
        self.assertIsInstance(taken.exception, ValueError)
        for other in ALL:
            self.assertEqual(isinstance(taken.exception, other), other is kind, (widths, nests))

    def no_program(self, widths, nests):
        self.refused(NoProgram, widths, nests)

    def taken(self, widths, nests):
        self.assertEqual(program_of(widths, nests), (widths, nests))


class Programs(Refusing):
    def test_a_program_is_its_widths_and_nests(self):
        self.assertEqual(program_of(WIDTHS, NESTS), PROGRAM)
        self.assertIsInstance(program_of(WIDTHS, NESTS), tuple)

    def test_what_is_handed_in_stays_and_equal_programs_are_told_again(self):
        nests = copy.deepcopy(NESTS)
        one = program_of(WIDTHS, nests)
        steps_of(one)
        cells_of(one)
        self.assertEqual(nests, NESTS)
        self.assertEqual(program_of(WIDTHS, nests), one)

    def test_one_to_three_widths_of_1_or_2(self):
        nests = (plain_nest(ONE_LOOP),)
        for widths in ((1,), (1, 1), (1, 2), (1, 1, 1), (1, 2, 2)):
            self.taken(widths, nests)
        for widths in ((), (1, 1, 1, 1), (0,), (3,), (-1,), (1, 0), (1, 3), (1, 1, 3), (1, 10 ** 40)):
            self.no_program(widths, nests)
        self.taken((2,), nests_of_deed((0, ((0, 0), (0, 0)), (0, 0), ())))

    def test_one_to_three_nests(self):
        for number in range(5):
            nests = (plain_nest(ONE_LOOP),) * number
            if 1 <= number <= 3:
                self.taken((1,), nests)
            else:
                self.no_program((1,), nests)

    def test_one_to_four_deeds(self):
        for number in range(6):
            nests = (plain_nest(ONE_LOOP, number),)
            if 1 <= number <= 4:
                self.taken((1,), nests)
            else:
                self.no_program((1,), nests)

    def test_none_to_three_reads(self):
        for number in range(5):
            nests = nests_of_deed((0, PLACE_0, (0, 0), ((1, 0, PLACE_0),) * number))
            if number <= 3:
                self.taken((1,), nests)
            else:
                self.no_program((1,), nests)

    def test_one_to_three_loops(self):
        four = SIXTY_COUNTS[:3] + (((0, 0, 0, 0), (1, 0, 0, 0)),)
        for number in (1, 2, 3):
            self.taken((1,), (plain_nest(four[:number]),))
        for number in (0, 4):
            self.no_program((1,), (plain_nest(four[:number]),))

    def test_loops_keep_to_their_bounds(self):
        for loops in ((((-9,), (-8,)),), (((8,), (9,)),), (((0,), (1,)), ((0, -2), (1, 2)))):
            self.taken((1,), (plain_nest(loops),))
        for loops in ((((-10,), (-9,)),), (((9,), (10,)),), (((0,), (1,)), ((0, -3), (1, 2)))):
            self.no_program((1,), (plain_nest(loops),))

    def test_a_table_is_one_that_is_there(self):
        for table in range(-2, 5):
            set_there = nests_of_deed((table, PLACE_0, (0, 0), ()))
            read_there = nests_of_deed((0, PLACE_0, (0, 0), ((1, table, PLACE_0),)))
            for widths in ((1,), (1, 1), (1, 1, 1)):
                for nests in (set_there, read_there):
                    if 0 <= table < len(widths):
                        self.taken(widths, nests)
                    else:
                        self.no_program(widths, nests)

    def test_a_place_is_as_wide_as_its_table(self):
        for width in (1, 2):
            for number in range(4):
                place = ((0, 1),) * number
                good = ((0, 1),) * width
                for deed in ((0, place, (0, 0), ()), (0, good, (0, 0), ((1, 0, place),))):
                    if number == width:
                        self.taken((width,), nests_of_deed(deed))
                    else:
                        self.no_program((width,), nests_of_deed(deed))

    def test_the_width_that_counts_is_that_of_the_table_named(self):
        self.taken((1, 2), nests_of_deed((1, ((0, 0), (0, 0)), (0, 0), ((1, 0, PLACE_0),))))
        self.no_program((1, 2), nests_of_deed((1, PLACE_0, (0, 0), ())))
        self.no_program((1, 2), nests_of_deed((0, PLACE_0, (0, 0), ((1, 1, PLACE_0),))))

    def test_numbers_of_places_go_from_minus_99_to_99(self):
        for at in (0, 1):
            for number in (-100, -99, 99, 100):
                place = (with_part((0, 0), (at,), number),)
                for deed in ((0, place, (0, 0), ()), (0, PLACE_0, (0, 0), ((1, 0, place),))):
                    if abs(number) <= 99:
                        self.taken((1,), nests_of_deed(deed))
                    else:
                        self.no_program((1,), nests_of_deed(deed))

    def test_start_and_factors_have_at_most_thirty_figures(self):
        thirty = int("9" * 30)
        for number in (thirty, -thirty, 10 ** 29):
            self.taken((1,), nests_of_deed((0, PLACE_0, (number, 0), ())))
            self.taken((1,), nests_of_deed((0, PLACE_0, (0, number), ())))
            self.taken((1,), nests_of_deed((0, PLACE_0, (0, 0), ((number, 0, PLACE_0),))))
        for number in (thirty + 1, -thirty - 1, 10 ** 59):
            self.no_program((1,), nests_of_deed((0, PLACE_0, (number, 0), ())))
            self.no_program((1,), nests_of_deed((0, PLACE_0, (0, number), ())))
            self.no_program((1,), nests_of_deed((0, PLACE_0, (0, 0), ((number, 0, PLACE_0),))))

    def test_a_factor_may_be_0(self):
        self.taken((1,), nests_of_deed((0, PLACE_0, (0, 0), ((0, 0, PLACE_0),))))


class WrongKinds(Refusing):
    def test_each_part_of_the_wrong_kind(self):
        for path, part in parts_of(PROGRAM)[1:]:
            wrong = NOT_WHOLE if isinstance(part, int) else NOT_TUPLE + [list(part)]
            for thing in wrong:
                self.no_program(*with_part(PROGRAM, path, thing))

    def test_each_part_of_a_fixed_length_too_long_or_too_short(self):
        # Forms, loops, nests, deeds, reads and places: whose lengths are told by what they are.
        tuples = [(path, part) for path, part in parts_of(PROGRAM)[1:] if isinstance(part, tuple)]
        fixed = [(path, part) for path, part in tuples if has_fixed_length(path)]
        self.assertGreater(len(fixed), 20)
        for path, part in fixed:
            for thing in (part[:-1], part + part[-1:], part + part):
                self.no_program(*with_part(PROGRAM, path, thing))

    def test_forms_for_another_number_of_counts(self):
        for d in range(4):
            deed = plain_deed(d)
            if d != 1:
                self.no_program((1,), nests_of_deed(deed))
                self.no_program((1,), nests_of_deed((0, PLACE_0, zero_form(d), ())))
                self.no_program((1,), nests_of_deed((0, PLACE_0, (0, 0), ((1, 0, (zero_form(d),)),))))

    def test_two_things_of_any_kind(self):
        for thing in NOT_TUPLE + [Other, NoProgram, (), ((),), (None,), [1], "ab", (1, (2, (3,)))]:
            self.no_program(thing, NESTS)
            self.no_program(WIDTHS, thing)
            self.no_program(thing, thing)

    def test_widths_and_nests_the_other_way_round(self):
        self.no_program(NESTS, WIDTHS)


def has_fixed_length(path):
    """Whether the part of PROGRAM at this path has but one allowed length (not widths, nests, loops, deeds, reads)."""
    if path in ((0,), (1,)):
        return False
    if len(path) == 3:
        return False
    return not (len(path) == 5 and path[2] == 1 and path[4] == 3)


class ManySteps(Refusing):
    def test_sixty_steps_are_taken(self):
        self.taken((1,), (plain_nest(SIXTY_COUNTS),))
        self.taken((1,), (plain_nest((((0,), (5,)), ((0, 0), (3, 0))), 4),))
        self.taken((1,), (plain_nest(TWENTY_COUNTS),) * 3)

    def test_more_than_sixty_are_too_many(self):
        one = plain_nest(ONE_LOOP)
        self.refused(TooMany, (1,), (plain_nest(SIXTY_COUNTS), one))
        self.refused(TooMany, (1,), (one, plain_nest(SIXTY_COUNTS)))
        self.refused(TooMany, (1,), (plain_nest((((0,), (8,)), ((0, 0), (2, 0))), 4),))
        self.refused(TooMany, (1,), (plain_nest(TWENTY_COUNTS), plain_nest(TWENTY_COUNTS), plain_nest(TWENTY_COUNTS, 2)))

    def test_as_many_counts_as_loops_can_have(self):
        loops = (((-9,), (9,)), ((-9, 2), (9, -2)), ((-9, 2, 2), (9, -2, -2)))
        self.refused(TooMany, (1,), (plain_nest(loops, 4),) * 3)

    def test_bounds_that_go_with_counts_are_counted_as_they_come(self):
        # 10 + 9 + .. + 1 = 55 counts, then 5 more steps or 6.
        loops = (((-1,), (9,)), ((0, 1), (9, 0)))
        self.taken((1,), (plain_nest(loops), plain_nest((((0,), (5,)),))))
        self.refused(TooMany, (1,), (plain_nest(loops), plain_nest((((0,), (6,)),))))

    def test_low_above_high_takes_no_steps_off(self):
        below = (((9,), (-9,)),)
        self.refused(TooMany, (1,), (plain_nest(below, 4), plain_nest(SIXTY_COUNTS), plain_nest(ONE_LOOP)))
        self.taken((1,), (plain_nest(below, 4), plain_nest(SIXTY_COUNTS)))
        dipping = (((-9,), (9,)), ((0, 0), (0, 2)))
        # 2 + 4 + .. + 16 = 72, and the counts below 1 have none.
        self.refused(TooMany, (1,), (plain_nest(dipping),))

    def test_what_is_no_program_is_refused_so_however_many_its_steps(self):
        many = plain_nest(SIXTY_COUNTS, 2)
        for wrong in (None, [], (ONE_LOOP, ()), (ONE_LOOP, [plain_deed(1)]), plain_nest((((0,), (10,)),)),
                      (ONE_LOOP, (plain_deed(2),)), (ONE_LOOP, (plain_deed(1)[:3] + (None,),))):
            self.no_program((1,), (many, wrong))
            self.no_program((1,), (wrong, many))
        self.no_program((True,), (many,))
        self.no_program([1], (many,))
        self.no_program((1,), [many])
        self.no_program((1,), (many,) * 4)
        self.no_program((1,), ((SIXTY_COUNTS, (plain_deed(3),) * 5),))


class Steps(unittest.TestCase):
    def test_nest_by_nest_counts_by_counts_deed_by_deed(self):
        self.assertEqual(steps_of(PROGRAM), STEPS)

    def test_no_steps(self):
        program = program_of((1,), (plain_nest(NO_COUNTS, 4),))
        self.assertEqual(steps_of(program), [])
        self.assertEqual(cells_of(program), [])

    def test_a_nest_without_counts_keeps_its_number(self):
        program = program_of((1,), (plain_nest(ONE_LOOP), plain_nest(NO_COUNTS), plain_nest(ONE_LOOP)))
        self.assertEqual(steps_of(program), [(0, (0,), 0), (2, (0,), 0)])

    def test_sixty_steps(self):
        program = program_of((1,), (plain_nest(SIXTY_COUNTS),))
        wanted = [(0, (a, b, c), 0) for a in range(5) for b in range(4) for c in range(3)]
        self.assertEqual(steps_of(program), wanted)

    def test_all_deeds_at_one_count_ahead_of_the_next_count(self):
        program = program_of((1,), (plain_nest((((-1,), (1,)),), 4),))
        self.assertEqual(
            steps_of(program),
            [(0, (-1,), 0), (0, (-1,), 1), (0, (-1,), 2), (0, (-1,), 3),
             (0, (0,), 0), (0, (0,), 1), (0, (0,), 2), (0, (0,), 3)])


class Cells(unittest.TestCase):
    def test_the_cell_that_is_set_and_those_that_are_read(self):
        self.assertEqual(cells_of(PROGRAM), CELLS)

    def test_their_kinds(self):
        for told in cells_of(PROGRAM):
            self.assertIsInstance(told, tuple)
            self.assertIsInstance(told[1], list)

    def test_two_reads_of_one_cell_are_told_twice(self):
        deed = (0, ((1, 0),), (0, 0), ((2, 0, ((4, 1),)), (3, 0, ((4, 0),)), (1, 0, ((1, 0),))))
        program = program_of((1,), nests_of_deed(deed))
        self.assertEqual(cells_of(program), [((0, (1,)), [(0, (4,)), (0, (4,)), (0, (1,))])])

    def test_a_read_with_factor_0_is_told(self):
        program = program_of((1,), nests_of_deed((0, PLACE_0, (0, 0), ((0, 0, ((7, 0),)),))))
        self.assertEqual(cells_of(program), [((0, (0,)), [(0, (7,))])])

    def test_places_of_three_counts_and_two_forms(self):
        loops = (((2,), (3,)), ((3, 0), (4, 0)), ((-4, 0, 0), (-3, 0, 0)))
        deed = (2, ((-99, 99, 0, 1), (0, 1, -1, 2)), (0, 0, 0, 0), ((1, 1, ((5, 0, 0, 99),)),))
        program = program_of((1, 1, 2), nests_of_deed(deed, loops))
        self.assertEqual(cells_of(program), [((2, (95, -9)), [(1, (-391,))])])


class OwnLists(unittest.TestCase):
    def test_changing_told_steps_changes_no_later_answer(self):
        told = steps_of(PROGRAM)
        told.reverse()
        told.pop()
        self.assertEqual(steps_of(PROGRAM), STEPS)

    def test_changing_told_cells_changes_no_later_answer(self):
        told = cells_of(PROGRAM)
        kept = copy.deepcopy(told)
        told[1][1].append("more")
        self.assertEqual(told[3], kept[3])
        told[6][1].clear()
        told.pop()
        self.assertEqual(cells_of(PROGRAM), CELLS)

    def test_no_two_told_lists_are_one(self):
        told = cells_of(PROGRAM) + cells_of(PROGRAM)
        self.assertEqual(len({id(reads) for cell, reads in told}), len(told))


if __name__ == "__main__":
    unittest.main()
