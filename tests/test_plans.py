import copy
import itertools
import unittest

from nestturn.errors import NoPlan, Tied, TurnError
from nestturn.plans import is_plan, keys, order_of, plain_plan
from nestturn.programs import program_of, steps_of
from nestturn.runs import plain, run
from refusing import Refusing
from samples import (
    NO_COUNTS, NOT_TUPLE, NOT_WHOLE, ONE_LOOP, PROGRAM, SIXTY_COUNTS, Other, block, form, parts_of, plain_nest,
    some_programs, with_part,
)

EMPTY = program_of((1,), (plain_nest(NO_COUNTS),))
SIX = program_of((1,), (plain_nest((((-3,), (3,)),)),))
SIXTY = program_of((1,), (plain_nest(SIXTY_COUNTS),))
GREATEST = int("9" * 60)


PLAIN_PLAN = (
    (
        (form(0, 0), form(0, 1), form(0, 0), form(0, 0), form(0, 0)),
        (form(0, 0), form(0, 1), form(0, 0), form(0, 0), form(1, 0)),
    ),
    (
        (form(1, 0, 0), form(0, 1, 0), form(0, 0, 1), form(0, 0, 0), form(0, 0, 0)),
    ),
)
PLAIN_KEYS = [
    (0, 0, 0, 0, 0), (0, 0, 0, 0, 1), (0, 1, 0, 0, 0), (0, 1, 0, 0, 1), (0, 2, 0, 0, 0), (0, 2, 0, 0, 1),
    (1, 0, 0, 0, 0), (1, 0, 1, 0, 0), (1, 1, 1, 0, 0),
]

# Lines of both kinds, with numbers of many sizes.
PLAN = (
    (
        (block(2, 1, 1), form(0, -1), form(0, 0)),
        (block(2, 0, 1), form(5, 0), form(1, 1)),
    ),
    (
        (block(99, -100, 0, 1), form(0, 2, -1), form(-7, 0, 0)),
    ),
)
KEYS = [
    (0, 0, 0), (0, 5, 1), (1, -1, 0), (0, 5, 2), (1, -2, 0), (1, 5, 3),
    (-2, 0, -7), (-1, -1, -7), (-1, 1, -7),
]
ORDER = [6, 7, 8, 0, 1, 3, 4, 2, 5]


def of_six(*lines):
    return ((lines,),)


class RefusingPlans(Refusing):
    def no_plan(self, program, thing):
        self.assertIs(is_plan(program, thing), False, thing)
        self.refused(NoPlan, keys, program, thing)
        self.refused(NoPlan, order_of, program, thing)

    def tied(self, program, plan, pair):
        told = self.refused(Tied, order_of, program, plan).pair
        self.assertEqual(told, pair)
        self.assertIsInstance(told, tuple)


class Plans(RefusingPlans):
    def test_plans(self):
        for plan in (PLAIN_PLAN, PLAN):
            self.assertIs(is_plan(PROGRAM, plan), True)

    def test_lines_of_both_kinds(self):
        for lines in ((form(0, 1),), (block(3, 0, 1),), (form(0, 0), block(1, 4, -4))):
            self.assertIs(is_plan(SIX, of_six(*lines)), True, lines)

    def test_one_to_nine_lines(self):
        for number in range(12):
            plan = of_six(*[form(0, 1)] * number)
            if 1 <= number <= 9:
                self.assertIs(is_plan(SIX, plan), True, number)
            else:
                self.no_plan(SIX, plan)

    def test_nests_without_counts_have_lines_too(self):
        self.assertIs(is_plan(EMPTY, (((form(0, 1),),),)), True)
        self.no_plan(EMPTY, ((),))
        self.no_plan(EMPTY, ())
        self.no_plan(EMPTY, (((),),))

    def test_sizes_from_1_to_99(self):
        for size in (1, 2, 98, 99):
            self.assertIs(is_plan(SIX, of_six(block(size, 0, 1))), True, size)
        for size in (0, 100, -1, -99, GREATEST, -GREATEST):
            self.no_plan(SIX, of_six(block(size, 0, 1)))

    def test_numbers_of_any_size(self):
        for number in (GREATEST, -GREATEST, 100, -10 ** 30):
            self.assertIs(is_plan(SIX, of_six(form(number, number), block(99, number, -number))), True, number)

    def test_forms_for_as_many_counts_as_the_nest_has(self):
        programs = [program_of((1,), (plain_nest(SIXTY_COUNTS[:d]),)) for d in (1, 2, 3)]
        for d, length in itertools.product((1, 2, 3), range(6)):
            for line in (form(*[0] * length), block(5, *[0] * length)):
                if length == d + 1:
                    self.assertIs(is_plan(programs[d - 1], ((((line,),),))), True, (d, line))
                else:
                    self.no_plan(programs[d - 1], ((((line,),),)))

    def test_the_counts_of_the_very_nest_count(self):
        self.no_plan(PROGRAM, (PLAIN_PLAN[0], PLAIN_PLAN[0][:1]))
        self.no_plan(PROGRAM, (PLAIN_PLAN[1] * 2, PLAIN_PLAN[1]))

    def test_another_number_of_nests(self):
        for thing in ((), PLAIN_PLAN[:1], PLAIN_PLAN[1:], PLAIN_PLAN + PLAIN_PLAN[:1], PLAIN_PLAN * 2):
            self.no_plan(PROGRAM, thing)

    def test_another_number_of_deeds(self):
        one, two = PLAIN_PLAN
        for thing in ((one[:1], two), (one * 2, two), (one, two * 2), (one, ()), ((), two), ((), ())):
            self.no_plan(PROGRAM, thing)

    def test_another_number_of_lines_in_one_deed(self):
        for path in ((0, 0), (0, 1), (1, 0)):
            lines = PLAIN_PLAN[path[0]][path[1]]
            for other in (lines[:-1], lines + lines[:1], lines[:1], lines + lines[:4], ()):
                self.no_plan(PROGRAM, with_part(PLAIN_PLAN, path, other))

    def test_words_that_begin_a_line(self):
        for word in ("Form", "form ", "", "line", "blocks", "f", None, 0, b"form", ("form",), ["form"], Other(), AllLike()):
            self.no_plan(SIX, of_six((word, (0, 1))))
            self.no_plan(SIX, of_six((word, (0, 1), 5)))

    def test_a_word_with_the_parts_of_the_other(self):
        for line in (("block", (0, 1)), ("form", (0, 1), 5), ("form",), ("block",), (), ("form", (0, 1), 5, 5),
                     ("block", 5, (0, 1)), ((0, 1), "form"), ("block", (0, 1), 5, 5), "fo", "for"):
            self.no_plan(SIX, of_six(line))

    def test_every_part_is_to_be_of_its_kind(self):
        for plan in (PLAIN_PLAN, PLAN):
            for path, part in parts_of(plan):
                wrong = NOT_TUPLE + [list(part)] if isinstance(part, tuple) else NOT_WHOLE
                for thing in wrong:
                    if thing != part or isinstance(thing, (bool, float, complex)):
                        self.no_plan(PROGRAM, with_part(plan, path, thing))

    def test_things_of_any_kind(self):
        for thing in NOT_TUPLE + NOT_WHOLE + [Other, "form", (None,), (None, None), ((), ()), ((1, 2), (3,)), PROGRAM]:
            self.no_plan(PROGRAM, thing)
            self.no_plan(EMPTY, thing)

    def test_a_plan_of_another_program(self):
        self.no_plan(SIX, PLAIN_PLAN)
        self.no_plan(PROGRAM, plain_plan(SIX))


class AllLike:
    """A thing that says of itself to be like all things."""

    def __eq__(self, other):
        return True

    def __hash__(self):
        return 0


class PlainPlan(unittest.TestCase):
    def test_five_lines_for_each_deed(self):
        self.assertEqual(plain_plan(PROGRAM), PLAIN_PLAN)

    def test_three_counts_and_four_deeds(self):
        program = program_of((1,), (plain_nest(ONE_LOOP), plain_nest(SIXTY_COUNTS[:1]), plain_nest(
            (((0,), (1,)), ((0, 0), (1, 0)), ((0, 0, 0), (1, 0, 0))), 4)))
        zeros = (0, 0, 0)
        counted = (form(0, 1, 0, 0), form(0, 0, 1, 0), form(0, 0, 0, 1))
        self.assertEqual(
            plain_plan(program)[2], tuple((form(2, *zeros),) + counted + (form(s, *zeros),) for s in range(4)))

    def test_a_program_without_steps(self):
        self.assertEqual(plain_plan(EMPTY), of_six(form(0, 0), form(0, 1), form(0, 0), form(0, 0), form(0, 0)))
        self.assertEqual(keys(EMPTY, plain_plan(EMPTY)), [])
        self.assertEqual(order_of(EMPTY, plain_plan(EMPTY)), [])

    def test_its_keys_and_its_order(self):
        self.assertEqual(keys(PROGRAM, PLAIN_PLAN), PLAIN_KEYS)
        self.assertEqual(order_of(PROGRAM, PLAIN_PLAN), list(range(9)))

    def test_its_order_is_the_plain_one(self):
        for program in some_programs() + [PROGRAM, EMPTY, SIX, SIXTY]:
            plan = plain_plan(program)
            self.assertIs(is_plan(program, plan), True)
            self.assertEqual(order_of(program, plan), plain(program))
            for step, key in zip(steps_of(program), keys(program, plan)):
                self.assertEqual(key, (step[0],) + (step[1] + (0, 0))[:3] + (step[2],))


class Keys(unittest.TestCase):
    def test_what_the_lines_of_each_step_come_to(self):
        self.assertEqual(keys(PROGRAM, PLAN), KEYS)
        self.assertIsInstance(keys(PROGRAM, PLAN), list)

    def test_blocks_are_rounded_down(self):
        # Counts from -3 to 2.
        self.assertEqual(keys(SIX, of_six(block(2, 0, 1))), [(-2,), (-1,), (-1,), (0,), (0,), (1,)])
        self.assertEqual(keys(SIX, of_six(block(3, 0, -1))), [(1,), (0,), (0,), (0,), (-1,), (-1,)])
        self.assertEqual(keys(SIX, of_six(block(99, -1, 0))), [(-1,)] * 6)
        self.assertEqual(keys(SIX, of_six(block(99, 98, 0))), [(0,)] * 6)
        self.assertEqual(keys(SIX, of_six(block(99, -99, 0))), [(-1,)] * 6)
        self.assertEqual(keys(SIX, of_six(block(99, -100, 0))), [(-2,)] * 6)

    def test_a_block_of_1_is_the_form(self):
        self.assertEqual(keys(SIX, of_six(block(1, 4, -2))), keys(SIX, of_six(form(4, -2))))

    def test_one_line_and_nine(self):
        self.assertEqual(keys(SIX, of_six(form(1, 2))), [(-5,), (-3,), (-1,), (1,), (3,), (5,)])
        nine = of_six(*[form(number, 1) for number in range(9)])
        self.assertEqual(keys(SIX, nine), [tuple(range(count, count + 9)) for count in range(-3, 3)])

    def test_great_numbers(self):
        self.assertEqual(
            keys(SIX, of_six(form(1, GREATEST), block(7, -GREATEST, GREATEST))),
            [(1 + GREATEST * count, (GREATEST * (count - 1) - (GREATEST * (count - 1)) % 7) // 7) for count in range(-3, 3)])

    def test_steps_with_one_key_are_told_all_the_same(self):
        self.assertEqual(keys(SIX, of_six(form(3, 0))), [(3,)] * 6)

    def test_three_counts(self):
        plan = ((((form(0, 1, 10, 100)), block(2, 1, 0, 0, -1)),),)
        wanted = [(a + 10 * b + 100 * c, {0: 0, 1: 0, 2: -1}[c]) for a in range(5) for b in range(4) for c in range(3)]
        self.assertEqual(keys(SIXTY, plan), wanted)


class Orders(RefusingPlans):
    def test_by_keys(self):
        self.assertEqual(order_of(PROGRAM, PLAN), ORDER)
        self.assertIsInstance(order_of(PROGRAM, PLAN), list)

    def test_backward_and_in_blocks(self):
        self.assertEqual(order_of(SIX, of_six(form(0, 1))), [0, 1, 2, 3, 4, 5])
        self.assertEqual(order_of(SIX, of_six(form(0, -1))), [5, 4, 3, 2, 1, 0])
        self.assertEqual(order_of(SIX, of_six(block(2, 0, 1), form(0, -1))), [0, 2, 1, 4, 3, 5])
        self.assertEqual(order_of(SIX, of_six(block(2, 0, -1), form(0, 1))), [4, 5, 2, 3, 0, 1])

    def test_the_first_line_goes_ahead_of_the_second(self):
        program = program_of((1,), (plain_nest((((0,), (2,)), ((0, 0), (3, 0)))),))
        self.assertEqual(order_of(program, (((form(0, 0, 1), form(0, 1, 0)),),)), [0, 3, 1, 4, 2, 5])
        self.assertEqual(order_of(program, (((form(0, 0, -1), form(0, 1, 0)),),)), [2, 5, 1, 4, 0, 3])

    def test_numbers_are_compared_as_numbers(self):
        program = program_of((1,), (plain_nest((((-1,), (9,)),)),))
        self.assertEqual(order_of(program, of_six(form(0, -10 ** 59))), list(range(9, -1, -1)))
        self.assertEqual(order_of(program, of_six(form(5, 5))), list(range(10)))

    def test_nine_lines_of_which_the_last_decides(self):
        self.assertEqual(order_of(SIX, of_six(*[form(4, 0)] * 8, form(0, -1))), [5, 4, 3, 2, 1, 0])

    def test_sixty_steps(self):
        plan = (((form(0, 0, 0, -1), form(0, 0, 1, 0), form(0, -1, 0, 0)),),)
        wanted = [12 * a + 3 * b + c for c in (2, 1, 0) for b in range(4) for a in (4, 3, 2, 1, 0)]
        self.assertEqual(order_of(SIXTY, plan), wanted)

    def test_a_told_order_may_be_run(self):
        self.assertEqual(run(PROGRAM, order_of(PROGRAM, PLAIN_PLAN), {}), run(PROGRAM, plain(PROGRAM), {}))

    def test_two_steps_with_one_key(self):
        self.tied(SIX, of_six(block(5, 3, 1)), (0, 1))
        # Blocks of 2 from -3 on: -3; -2 and -1; 0 and 1; 2.
        self.tied(SIX, of_six(block(2, 0, 1)), (1, 2))

    def test_ties_of_three_steps_and_more(self):
        self.tied(SIX, of_six(form(0, 0)), (0, 1))
        # -3; -2, -1, 0; 1, 2.
        self.tied(SIX, of_six(block(3, 2, 1)), (1, 2))
        self.tied(SIXTY, (((form(0, 0, 1, 0),),),), (0, 1))
        self.tied(SIXTY, (((form(0, 0, 0, 1),),),), (0, 3))
        self.tied(SIXTY, (((form(0, 0, 1, 1),),),), (0, 12))

    def test_the_least_step_goes_by_number_and_not_by_key(self):
        # Backward blocks: the steps 4 and 5 have the least key, 1, 2 and 3 the next one.
        self.tied(SIX, of_six(block(3, 0, -1)), (1, 2))
        self.assertEqual(keys(SIX, of_six(block(3, 0, -1))), [(1,), (0,), (0,), (0,), (-1,), (-1,)])

    def test_ties_that_lie_within_one_another(self):
        # Keys by deed: 0 1 1 0: the pairs (0, 3) and (1, 2); 0 is the least step.
        program = program_of((1,), (plain_nest(ONE_LOOP, 4),))
        lines = [(form(number, 0),) for number in (0, 1, 1, 0)]
        self.tied(program, (tuple(lines),), (0, 3))
        lines = [(form(number, 0),) for number in (9, 1, 1, 1)]
        self.tied(program, (tuple(lines),), (1, 2))
        lines = [(form(number, 0),) for number in (2, 1, 2, 2)]
        self.tied(program, (tuple(lines),), (0, 2))

    def test_ties_of_unlike_nests_and_of_unlike_kinds_of_lines(self):
        program = program_of((1,), (plain_nest(ONE_LOOP), plain_nest(ONE_LOOP, 2)))
        self.tied(program, (((form(4, 0),),), ((form(3, 0),), (block(2, 9, 0),))), (0, 2))
        self.assertEqual(order_of(program, (((form(4, 0),),), ((form(3, 0),), (block(2, 11, 0),)))), [1, 0, 2])

    def test_keys_alike_but_for_the_last_line_are_no_tie(self):
        program = program_of((1,), (plain_nest(ONE_LOOP, 2),))
        plan = (((form(0, 0), form(1, 0)), (form(0, 0), form(0, 0))),)
        self.assertEqual(order_of(program, plan), [1, 0])

    def test_no_steps_are_no_tie(self):
        self.assertEqual(order_of(EMPTY, of_six(form(0, 0))), [])

    def test_what_is_no_plan_is_refused_so_and_not_as_tied(self):
        self.no_plan(SIX, of_six(form(0, 0), form(0)))

    def test_all_pairs_of_lines_by_the_words(self):
        lines = [form(0, 0), form(2, -1), form(0, 2), block(2, 1, 1), block(4, -1, -2), block(3, 0, 1)]
        for two in itertools.product(lines, repeat=2):
            plan = of_six(*two)
            told = keys(SIX, plan)
            alike = [(i, j) for i in range(6) for j in range(i + 1, 6) if told[i] == told[j]]
            if alike:
                self.tied(SIX, plan, alike[0])
            else:
                order = order_of(SIX, plan)
                self.assertEqual(sorted(order), list(range(6)))
                for ahead, behind in zip(order, order[1:]):
                    self.assertLess(told[ahead], told[behind])


class NothingKept(unittest.TestCase):
    def test_what_is_handed_in_stays_and_equal_things_are_told_again(self):
        program, plan = copy.deepcopy(PROGRAM), copy.deepcopy(PLAN)
        for tell in (is_plan, keys, order_of):
            self.assertEqual(tell(program, plan), tell(PROGRAM, PLAN))
            self.assertEqual(tell(program, plan), tell(program, plan))
        self.assertEqual(plain_plan(program), plain_plan(PROGRAM))
        self.assertEqual((program, plan), (PROGRAM, PLAN))

    def test_a_list_that_is_no_plan_stays_as_it_was(self):
        thing = [[[form(0, 1)]]]
        self.assertIs(is_plan(SIX, thing), False)
        self.assertEqual(thing, [[[form(0, 1)]]])

    def test_changing_what_is_told_changes_no_later_answer(self):
        told = keys(PROGRAM, PLAN)
        told.reverse()
        told.append(None)
        self.assertEqual(keys(PROGRAM, PLAN), KEYS)
        order = order_of(PROGRAM, PLAN)
        order.clear()
        self.assertEqual(order_of(PROGRAM, PLAN), ORDER)

    def test_what_is_refused_changes_no_later_answer(self):
        for thing in (None, of_six(form(0, 0))):
            with self.assertRaises(TurnError):
                order_of(SIX, thing)
        self.assertEqual(order_of(SIX, of_six(form(0, -1))), [5, 4, 3, 2, 1, 0])


if __name__ == "__main__":
    unittest.main()
