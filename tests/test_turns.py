import copy
import itertools
import unittest

from nestturn.errors import NoPlan, NoTurn
from nestturn.plans import is_plan, keys, order_of, plain_plan
from nestturn.programs import program_of, steps_of
from nestturn.turns import backward, blocked, cut, exchanged, moved, slanted
from refusing import Refusing
from samples import (
    NO_COUNTS, NOT_TUPLE, PROGRAM, SIXTY_COUNTS, TRIPLE, block, form, parts_of, plain_nest, some_programs, with_part,
)

EMPTY = program_of((1,), (plain_nest(NO_COUNTS, 2),))
SIX = program_of((1,), (plain_nest((((-3,), (3,)),)),))
SIXTY = program_of((1,), (plain_nest(SIXTY_COUNTS),))
GREATEST = int("9" * 60)
NOT_THERE = (-1, 99, -2, -99, GREATEST, -GREATEST)

# A block in one deed alone at 0 and at 1; forms in all deeds at 2.
LINES = (
    (
        (block(2, 1, 1), form(0, -1), form(0, 3)),
        (form(8, 1), form(5, 0), form(1, -1)),
    ),
    (
        (form(-100, 0, 1), block(9, 0, 2, -1), form(-7, 0, 4)),
    ),
)


def of_six(*lines):
    return ((lines,),)


def all_turns(program, plan, nest, deed, a, b):
    """Each turning with the numbers told, as (function, arguments)."""
    return [
        (exchanged, (program, plan, nest, a, b)), (backward, (program, plan, nest, a)),
        (slanted, (program, plan, nest, a, b, 3)), (moved, (program, plan, nest, deed, a, 3)),
        (blocked, (program, plan, nest, a, 3)), (cut, (program, plan, a)),
    ]


class Exchanged(Refusing):
    def test_the_lines_change_places_in_all_deeds_of_the_nest(self):
        self.assertEqual(exchanged(PROGRAM, LINES, 0, 0, 2), (
            ((form(0, 3), form(0, -1), block(2, 1, 1)), (form(1, -1), form(5, 0), form(8, 1))), LINES[1]))
        self.assertEqual(exchanged(PROGRAM, LINES, 1, 1, 0), (
            LINES[0], ((block(9, 0, 2, -1), form(-100, 0, 1), form(-7, 0, 4)),)))

    def test_whichever_is_told_first(self):
        for nest, a, b in itertools.product(range(2), range(3), range(3)):
            self.assertEqual(exchanged(PROGRAM, LINES, nest, a, b), exchanged(PROGRAM, LINES, nest, b, a))

    def test_a_and_b_may_be_one(self):
        for nest, a in itertools.product(range(2), range(3)):
            self.assertEqual(exchanged(PROGRAM, LINES, nest, a, a), LINES)

    def test_one_line(self):
        self.assertEqual(exchanged(SIX, of_six(block(5, 0, 1)), 0, 0, 0), of_six(block(5, 0, 1)))

    def test_the_order_of_loops_within_one_another(self):
        program = program_of((1,), (plain_nest((((0,), (2,)), ((0, 0), (3, 0)))),))
        plan = exchanged(program, plain_plan(program), 0, 1, 2)
        self.assertEqual(order_of(program, plan), [0, 3, 1, 4, 2, 5])

    def test_three_nests_of_which_one_is_turned(self):
        plan = plain_plan(TRIPLE)
        for nest in range(3):
            turned = exchanged(TRIPLE, plan, nest, 0, 4)
            for other in range(3):
                wanted = tuple((lines[4],) + lines[1:4] + (lines[0],) for lines in plan[other])
                self.assertEqual(turned[other], wanted if other == nest else plan[other])

    def test_lines_that_are_not_there(self):
        for a in NOT_THERE + (3,):
            self.refused(NoTurn, exchanged, PROGRAM, LINES, 0, a, 0)
            self.refused(NoTurn, exchanged, PROGRAM, LINES, 0, 2, a)
            self.refused(NoTurn, exchanged, PROGRAM, LINES, 1, a, a)


class Backward(Refusing):
    def test_the_line_with_the_other_sign_in_all_deeds_of_the_nest(self):
        self.assertEqual(backward(PROGRAM, LINES, 0, 2), (
            ((block(2, 1, 1), form(0, -1), form(0, -3)), (form(8, 1), form(5, 0), form(-1, 1))), LINES[1]))
        self.assertEqual(backward(PROGRAM, LINES, 0, 1), (
            ((block(2, 1, 1), form(0, 1), form(0, 3)), (form(8, 1), form(-5, 0), form(1, -1))), LINES[1]))
        self.assertEqual(backward(PROGRAM, LINES, 1, 0), (
            LINES[0], ((form(100, 0, -1), block(9, 0, 2, -1), form(-7, 0, 4)),)))

    def test_numbers_of_sixty_figures(self):
        self.assertEqual(backward(SIX, of_six(form(GREATEST, -GREATEST)), 0, 0), of_six(form(-GREATEST, GREATEST)))

    def test_the_order(self):
        self.assertEqual(order_of(SIX, backward(SIX, plain_plan(SIX), 0, 1)), [5, 4, 3, 2, 1, 0])

    def test_a_block(self):
        self.refused(NoTurn, backward, SIX, of_six(form(0, 1), block(1, 0, 1)), 0, 1)
        self.refused(NoTurn, backward, PROGRAM, LINES, 1, 1)

    def test_a_block_in_one_deed_alone(self):
        self.refused(NoTurn, backward, PROGRAM, LINES, 0, 0)
        first, second = LINES[0]
        self.refused(NoTurn, backward, PROGRAM, ((second, first), LINES[1]), 0, 0)

    def test_a_block_in_another_nest_bars_nothing(self):
        self.assertEqual(backward(PROGRAM, LINES, 0, 1)[1], LINES[1])


class Slanted(Refusing):
    def test_a_factor_times_the_line_at_b_is_put_to_that_at_a(self):
        self.assertEqual(slanted(PROGRAM, LINES, 0, 1, 2, 10), (
            ((block(2, 1, 1), form(0, 29), form(0, 3)), (form(8, 1), form(15, -10), form(1, -1))), LINES[1]))
        self.assertEqual(slanted(PROGRAM, LINES, 0, 2, 1, -2), (
            ((block(2, 1, 1), form(0, -1), form(0, 5)), (form(8, 1), form(5, 0), form(-9, -1))), LINES[1]))
        self.assertEqual(slanted(PROGRAM, LINES, 1, 0, 2, 1), (
            LINES[0], ((form(-107, 0, 5), block(9, 0, 2, -1), form(-7, 0, 4)),)))

    def test_factors_of_0_and_of_sixty_figures(self):
        plan = of_six(form(2, 1), form(-3, 4))
        self.assertEqual(slanted(SIX, plan, 0, 0, 1, 0), plan)
        self.assertEqual(slanted(SIX, plan, 0, 0, 1, GREATEST), of_six(form(2 - 3 * GREATEST, 1 + 4 * GREATEST), plan[0][0][1]))
        self.assertEqual(slanted(SIX, plan, 0, 1, 0, -GREATEST), of_six(plan[0][0][0], form(-3 - 2 * GREATEST, 4 - GREATEST)))
        great = of_six(form(GREATEST, 0), form(GREATEST, -GREATEST))
        self.assertEqual(
            slanted(SIX, great, 0, 0, 1, GREATEST),
            of_six(form(GREATEST + GREATEST ** 2, -GREATEST ** 2), form(GREATEST, -GREATEST)))

    def test_the_order_of_slanted_loops(self):
        # i, then j becomes i + j, then j: (0, 0); (1, 0), (0, 1); (1, 1), (0, 2); (1, 2).
        program = program_of((1,), (plain_nest((((0,), (2,)), ((0, 0), (3, 0)))),))
        plan = slanted(program, plain_plan(program), 0, 1, 2, 1)
        self.assertEqual(order_of(program, plan), [0, 3, 1, 4, 2, 5])
        plan = slanted(program, plain_plan(program), 0, 1, 2, -1)
        self.assertEqual(order_of(program, plan), [2, 1, 5, 0, 4, 3])

    def test_a_and_b_are_to_be_unlike(self):
        for factor in (0, 1, -1, GREATEST):
            for a in range(5):
                self.refused(NoTurn, slanted, PROGRAM, plain_plan(PROGRAM), 0, a, a, factor)
        self.refused(NoTurn, slanted, SIX, of_six(form(0, 1)), 0, 0, 0, 1)

    def test_a_block_at_a_or_at_b_in_one_deed_alone(self):
        first, second = LINES[0]
        for plan in (LINES, ((second, first), LINES[1])):
            for a, b in ((0, 1), (1, 0), (0, 2), (2, 0)):
                self.refused(NoTurn, slanted, PROGRAM, plan, 0, a, b, 1)
            self.assertEqual(slanted(PROGRAM, plan, 0, 1, 2, 0), plan)
        for a, b in ((0, 1), (1, 0), (2, 1), (1, 2)):
            self.refused(NoTurn, slanted, PROGRAM, LINES, 1, a, b, 0)

    def test_lines_that_are_not_there(self):
        for a in NOT_THERE + (5,):
            for b in range(5):
                self.refused(NoTurn, slanted, PROGRAM, plain_plan(PROGRAM), 0, a, b, 1)
                self.refused(NoTurn, slanted, PROGRAM, plain_plan(PROGRAM), 1, b, a, 1)


class Moved(Refusing):
    def test_the_first_number_of_one_deed_is_greater(self):
        self.assertEqual(moved(PROGRAM, LINES, 0, 1, 1, 6), (
            (LINES[0][0], (form(8, 1), form(11, 0), form(1, -1))), LINES[1]))
        self.assertEqual(moved(PROGRAM, LINES, 0, 0, 2, -6), (
            ((block(2, 1, 1), form(0, -1), form(-6, 3)), LINES[0][1]), LINES[1]))
        self.assertEqual(moved(PROGRAM, LINES, 1, 0, 2, 7), (
            LINES[0], ((form(-100, 0, 1), block(9, 0, 2, -1), form(0, 0, 4)),)))

    def test_numbers_of_0_and_of_sixty_figures(self):
        plan = of_six(form(GREATEST, 2))
        self.assertEqual(moved(SIX, plan, 0, 0, 0, 0), plan)
        self.assertEqual(moved(SIX, plan, 0, 0, 0, GREATEST), of_six(form(2 * GREATEST, 2)))
        self.assertEqual(moved(SIX, plan, 0, 0, 0, -GREATEST), of_six(form(0, 2)))

    def test_a_block_in_the_deed(self):
        self.refused(NoTurn, moved, PROGRAM, LINES, 0, 0, 0, 1)
        self.refused(NoTurn, moved, PROGRAM, LINES, 1, 0, 1, 1)

    def test_a_block_in_another_deed_bars_nothing(self):
        self.assertEqual(moved(PROGRAM, LINES, 0, 1, 0, 1), (
            (LINES[0][0], (form(9, 1), form(5, 0), form(1, -1))), LINES[1]))

    def test_deeds_that_are_not_there(self):
        for deed in NOT_THERE + (2,):
            self.refused(NoTurn, moved, PROGRAM, LINES, 0, deed, 2, 1)
        # The nest 1 has one deed, the nest 0 two.
        self.refused(NoTurn, moved, PROGRAM, LINES, 1, 1, 2, 1)


class Blocked(Refusing):
    def test_a_block_ahead_of_the_line_and_nothing_in_other_nests(self):
        self.assertEqual(blocked(PROGRAM, LINES, 0, 2, 4), (
            ((block(2, 1, 1), form(0, -1), block(4, 0, 3), form(0, 3)),
             (form(8, 1), form(5, 0), block(4, 1, -1), form(1, -1))),
            ((form(-100, 0, 1), block(9, 0, 2, -1), form(0, 0, 0), form(-7, 0, 4)),)))
        self.assertEqual(blocked(PROGRAM, LINES, 1, 0, 99), (
            ((form(0, 0), block(2, 1, 1), form(0, -1), form(0, 3)),
             (form(0, 0), form(8, 1), form(5, 0), form(1, -1))),
            ((block(99, -100, 0, 1), form(-100, 0, 1), block(9, 0, 2, -1), form(-7, 0, 4)),)))

    def test_each_size_from_1_to_99(self):
        for size in range(1, 100):
            told = blocked(SIX, of_six(form(3, 1)), 0, 0, size)
            self.assertEqual(told, of_six(block(size, 3, 1), form(3, 1)))
            self.assertIs(is_plan(SIX, told), True)

    def test_other_nests_have_0_for_each_of_their_counts(self):
        plan = plain_plan(TRIPLE)
        zeros = [form(0, 0), form(0, 0, 0), form(0, 0, 0, 0)]
        for nest, a in itertools.product(range(3), range(5)):
            told = blocked(TRIPLE, plan, nest, a, 2)
            self.assertIs(is_plan(TRIPLE, told), True)
            for number in range(3):
                for lines, before in zip(told[number], plan[number]):
                    wanted = block(2, *before[a][1]) if number == nest else zeros[number]
                    self.assertEqual(lines, before[:a] + (wanted,) + before[a:])

    def test_blocks_of_other_nests_at_each_line_bar_nothing(self):
        for a in range(3):
            others = tuple(block(5, 1, 2) if at == a else form(at, 1) for at in range(3))
            plan = ((others, others), (tuple(form(at, 0, 1) for at in range(3)),))
            wanted = others[:a] + (form(0, 0),) + others[a:]
            told = blocked(PROGRAM, plan, 1, a, 7)
            self.assertEqual(told[0], (wanted, wanted))
            self.assertEqual(told[1][0][a:a + 2], (block(7, a, 0, 1), form(a, 0, 1)))

    def test_the_order_in_blocks(self):
        plan = backward(SIX, blocked(SIX, plain_plan(SIX), 0, 1, 2), 0, 2)
        self.assertEqual(order_of(SIX, plan), [0, 2, 1, 4, 3, 5])

    def test_a_block_in_one_deed_alone(self):
        first, second = LINES[0]
        for plan in (LINES, ((second, first), LINES[1])):
            self.refused(NoTurn, blocked, PROGRAM, plan, 0, 0, 4)
        self.refused(NoTurn, blocked, PROGRAM, LINES, 1, 1, 4)

    def test_eight_lines_and_nine(self):
        for number in range(1, 10):
            plan = of_six(*[form(at, 1) for at in range(number)])
            for a in range(number):
                if number < 9:
                    self.assertEqual(len(blocked(SIX, plan, 0, a, 3)[0][0]), number + 1)
                else:
                    self.refused(NoTurn, blocked, SIX, plan, 0, a, 3)

    def test_a_line_behind_the_last_is_not_there(self):
        for number in (1, 3, 8):
            self.refused(NoTurn, blocked, SIX, of_six(*[form(0, 1)] * number), 0, number, 3)


class Cut(Refusing):
    def test_the_line_is_left_out_in_all_deeds_of_all_nests(self):
        self.assertEqual(cut(PROGRAM, LINES, 0), (
            ((form(0, -1), form(0, 3)), (form(5, 0), form(1, -1))), ((block(9, 0, 2, -1), form(-7, 0, 4)),)))
        self.assertEqual(cut(PROGRAM, LINES, 1), (
            ((block(2, 1, 1), form(0, 3)), (form(8, 1), form(1, -1))), ((form(-100, 0, 1), form(-7, 0, 4)),)))
        self.assertEqual(cut(PROGRAM, LINES, 2), (
            ((block(2, 1, 1), form(0, -1)), (form(8, 1), form(5, 0))), ((form(-100, 0, 1), block(9, 0, 2, -1)),)))

    def test_nine_lines_and_two(self):
        nine = [form(at, 1) for at in range(9)]
        for a in range(9):
            self.assertEqual(cut(SIX, of_six(*nine), a), of_six(*nine[:a], *nine[a + 1:]))
        self.assertEqual(cut(SIX, of_six(*nine[:2]), 0), of_six(nine[1]))
        self.assertEqual(cut(SIX, of_six(*nine[:2]), 1), of_six(nine[0]))

    def test_one_line(self):
        for a in (0, 1) + NOT_THERE:
            self.refused(NoTurn, cut, SIX, of_six(form(0, 1)), a)
            self.refused(NoTurn, cut, PROGRAM, (((form(0, 1),), (block(3, 0, 1),)), ((form(0, 1, 0),),)), a)

    def test_three_nests(self):
        plan = plain_plan(TRIPLE)
        for a in range(5):
            wanted = tuple(tuple(lines[:a] + lines[a + 1:] for lines in deeds) for deeds in plan)
            self.assertEqual(cut(TRIPLE, plan, a), wanted)


class NotThere(Refusing):
    def test_nests(self):
        for program, nests in ((PROGRAM, 2), (TRIPLE, 3), (SIX, 1), (EMPTY, 1)):
            for nest in NOT_THERE + (nests,):
                for tell, asked in all_turns(program, plain_plan(program), nest, 0, 0, 1)[:-1]:
                    self.refused(NoTurn, tell, *asked)

    def test_lines(self):
        for program in (PROGRAM, TRIPLE, SIX, EMPTY):
            for a in NOT_THERE + (5,):
                for tell, asked in all_turns(program, plain_plan(program), 0, 0, a, 1):
                    self.refused(NoTurn, tell, *asked)

    def test_several_at_once(self):
        for tell, asked in all_turns(PROGRAM, LINES, 99, -1, 99, -1):
            self.refused(NoTurn, tell, *asked)


class NoPlans(Refusing):
    def no_plan(self, program, thing):
        for numbers in ((0, 0, 0, 1), (99, 99, 99, -1), (-1, -1, -1, -1), (0, 0, 1, 1)):
            for tell, asked in all_turns(program, thing, *numbers):
                self.refused(NoPlan, tell, *asked)

    def test_things_of_any_kind(self):
        for thing in NOT_TUPLE + [(), ((),), (((),),), ((None,),), "form", form(0, 1)]:
            self.no_plan(PROGRAM, thing)
            self.no_plan(EMPTY, thing)

    def test_lines_of_another_number(self):
        self.no_plan(SIX, of_six())
        self.no_plan(SIX, of_six(*[form(0, 1)] * 10))
        self.no_plan(PROGRAM, with_part(LINES, (1, 0), LINES[1][0][:2]))
        self.no_plan(PROGRAM, with_part(LINES, (0, 1), LINES[0][1] + (form(0, 0),)))

    def test_a_plan_of_another_program(self):
        self.no_plan(SIX, LINES)
        self.no_plan(PROGRAM, plain_plan(SIX))
        self.no_plan(TRIPLE, plain_plan(PROGRAM))

    def test_each_part_of_another_kind(self):
        for path, part in parts_of(LINES):
            self.no_plan(PROGRAM, with_part(LINES, path, list(part) if isinstance(part, tuple) else True))

    def test_sizes_that_are_none(self):
        for size in (0, 100, -1, True, "2", None):
            self.no_plan(SIX, of_six(form(0, 1), ("block", (0, 1), size)))


def some_plans(program):
    """Plans of a program with forms, blocks, great numbers, one line and nine."""
    told = [plain_plan(program)]
    for length in (1, 3, 9):
        nests = []
        for nest, (loops, deeds) in enumerate(program[1]):
            lines_of_deeds = []
            for deed in range(len(deeds)):
                lines = []
                for at in range(length):
                    numbers = tuple((nest + 3 * deed + 5 * at + 7 * k) % 11 - 5 for k in range(len(loops) + 1))
                    numbers = numbers[:-1] + (numbers[-1] * (10 ** 50 if at == 2 else 1),)
                    lines.append(block(2 + deed, *numbers) if (nest + deed + at) % 4 == 3 else form(*numbers))
                lines_of_deeds.append(tuple(lines))
            nests.append(tuple(lines_of_deeds))
        told.append(tuple(nests))
    return told


PROGRAMS = some_programs()[::5] + [PROGRAM, TRIPLE, EMPTY, SIX]
ASKED = [(program, plan) for program in PROGRAMS for plan in some_plans(program)]


def is_forms(plan, nest, a):
    return all(lines[a][0] == "form" for lines in plan[nest])


class ThereAndBack(unittest.TestCase):
    def test_the_family_is_of_plans(self):
        for program, plan in ASKED:
            self.assertIs(is_plan(program, plan), True)

    def test_exchanged_twice(self):
        for program, plan in ASKED:
            lines = range(len(plan[0][0]))
            for nest, a, b in itertools.product(range(len(plan)), lines, lines):
                turned = exchanged(program, plan, nest, a, b)
                self.assertIs(is_plan(program, turned), True)
                self.assertEqual(exchanged(program, turned, nest, a, b), plan)
                self.assertEqual(exchanged(program, turned, nest, b, a), plan)

    def test_backward_twice(self):
        for program, plan in ASKED:
            for nest, a in itertools.product(range(len(plan)), range(len(plan[0][0]))):
                if is_forms(plan, nest, a):
                    turned = backward(program, plan, nest, a)
                    self.assertIs(is_plan(program, turned), True)
                    self.assertEqual(backward(program, turned, nest, a), plan)

    def test_slanted_by_a_factor_and_by_it_with_the_other_sign(self):
        for program, plan in ASKED:
            lines = range(len(plan[0][0]))
            for nest, a, b in itertools.product(range(len(plan)), lines, lines):
                if a != b and is_forms(plan, nest, a) and is_forms(plan, nest, b):
                    for factor in (0, 1, -3, GREATEST):
                        turned = slanted(program, plan, nest, a, b, factor)
                        self.assertIs(is_plan(program, turned), True)
                        self.assertEqual(slanted(program, turned, nest, a, b, -factor), plan)

    def test_moved_by_a_number_and_by_it_with_the_other_sign(self):
        for program, plan in ASKED:
            for nest, a in itertools.product(range(len(plan)), range(len(plan[0][0]))):
                for deed, lines in enumerate(plan[nest]):
                    if lines[a][0] == "form":
                        for number in (0, 1, -3, GREATEST):
                            turned = moved(program, plan, nest, deed, a, number)
                            self.assertIs(is_plan(program, turned), True)
                            self.assertEqual(moved(program, turned, nest, deed, a, -number), plan)

    def test_blocked_and_cut_at_the_same_line(self):
        for program, plan in ASKED:
            length = len(plan[0][0])
            for nest, a in itertools.product(range(len(plan)), range(length)):
                if is_forms(plan, nest, a) and length < 9:
                    for size in (1, 7, 99):
                        turned = blocked(program, plan, nest, a, size)
                        self.assertIs(is_plan(program, turned), True)
                        self.assertEqual(cut(program, turned, a), plan)

    def test_cut_plans_are_plans(self):
        for program, plan in ASKED:
            length = len(plan[0][0])
            for a in range(length if length > 1 else 0):
                self.assertIs(is_plan(program, cut(program, plan, a)), True)


class TurnedKeys(Refusing):
    """What turning does to the keys of the steps, or that it is refused, by the words of the document."""

    def look(self, program, plan, wanted, tell, *asked):
        if wanted is None:
            self.refused(NoTurn, tell, program, plan, *asked)
        else:
            told = keys(program, tell(program, plan, *asked))
            before = keys(program, plan)
            for step, one, other in zip(steps_of(program), before, told):
                self.assertEqual(other, wanted(step, one), (tell, asked))

    def test_each_line(self):
        for program, plan in ASKED:
            length = len(plan[0][0])
            for nest, a in itertools.product(range(len(plan)), range(length)):
                forms = is_forms(plan, nest, a)

                def signed(step, key):
                    return key[:a] + (-key[a],) + key[a + 1:] if step[0] == nest else key

                def put(step, key):
                    return key[:a] + (key[a] // 6 if step[0] == nest else 0,) + key[a:]

                self.look(program, plan, signed if forms else None, backward, nest, a)
                self.look(program, plan, put if forms and length < 9 else None, blocked, nest, a, 6)
                for deed, lines in enumerate(plan[nest]):
                    def greater(step, key):
                        return key[:a] + (key[a] + 13,) + key[a + 1:] if (step[0], step[2]) == (nest, deed) else key

                    self.look(program, plan, greater if lines[a][0] == "form" else None, moved, nest, deed, a, 13)

    def test_each_two_lines(self):
        for program, plan in ASKED:
            lines = range(len(plan[0][0]))
            for nest, a, b in itertools.product(range(len(plan)), lines, lines):
                def changed(step, key):
                    places = {a: key[b], b: key[a]} if step[0] == nest else {}
                    return tuple(places.get(at, number) for at, number in enumerate(key))

                def put_to(step, key):
                    return key[:a] + (key[a] - 4 * key[b],) + key[a + 1:] if step[0] == nest else key

                forms = a != b and is_forms(plan, nest, a) and is_forms(plan, nest, b)
                self.look(program, plan, changed, exchanged, nest, a, b)
                self.look(program, plan, put_to if forms else None, slanted, nest, a, b, -4)

    def test_cut(self):
        for program, plan in ASKED:
            for a in range(len(plan[0][0])):
                def shorter(step, key):
                    return key[:a] + key[a + 1:]

                self.look(program, plan, shorter if len(plan[0][0]) > 1 else None, cut, a)


class WithoutSteps(unittest.TestCase):
    def test_a_program_without_steps(self):
        plan = plain_plan(EMPTY)
        for tell, asked in all_turns(EMPTY, plan, 0, 1, 1, 4):
            self.assertIs(is_plan(EMPTY, tell(*asked)), True)
        self.assertEqual(backward(EMPTY, plan, 0, 1), tuple(
            tuple(lines[:1] + (form(0, -1),) + lines[2:] for lines in deeds) for deeds in plan))
        self.assertEqual(moved(EMPTY, plan, 0, 1, 4, 1)[0][1][4], form(2, 0))


class NothingKept(Refusing):
    def test_what_is_handed_in_stays_and_equal_things_are_told_again(self):
        program, plan = copy.deepcopy(PROGRAM), copy.deepcopy(LINES)
        for tell, asked in all_turns(program, plan, 0, 1, 2, 1):
            one = tell(*asked)
            self.assertEqual(tell(*asked), one)
            self.assertEqual(tell(*copy.deepcopy(asked)), one)
            self.assertEqual((program, plan), (PROGRAM, LINES))

    def test_lists_that_are_no_plan_stay_as_they_were(self):
        thing = [[[form(0, 1), form(0, 0)]]]
        for tell, asked in all_turns(SIX, thing, 0, 0, 0, 1):
            self.refused(NoPlan, tell, *asked)
            self.assertEqual(thing, [[[form(0, 1), form(0, 0)]]])

    def test_what_is_refused_changes_no_later_answer(self):
        wanted = [tell(*asked) for tell, asked in all_turns(PROGRAM, LINES, 0, 1, 2, 1)]
        for tell, asked in all_turns(PROGRAM, LINES, 5, 5, 5, 5):
            self.refused(NoTurn, tell, *asked)
        self.assertEqual([tell(*asked) for tell, asked in all_turns(PROGRAM, LINES, 0, 1, 2, 1)], wanted)


if __name__ == "__main__":
    unittest.main()
