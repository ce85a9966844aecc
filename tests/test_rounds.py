import copy
import itertools
import unittest

from nestturn.alike import compared
from nestturn.errors import NoPlan, NoTurn
from nestturn.keeping import broken
from nestturn.plans import keys, order_of, plain_plan
from nestturn.programs import program_of
from nestturn.rounds import are_rounds, barring, rounds
from nestturn.runs import plain
from nestturn.touch import touches
from nestturn.turns import backward, blocked, exchanged, slanted
from refusing import Refusing
from samples import (
    NO_COUNTS, NOT_TUPLE, ONE_LOOP, PROGRAM, SIXTY_COUNTS, TRIPLE, at, block, form, one_nest, plain_nest,
    some_programs,
)

EMPTY = program_of((1,), (plain_nest(NO_COUNTS),))
SIX = program_of((1,), (plain_nest((((-3,), (3,)),)),))
ALL_TOUCH = program_of((1,), (plain_nest(SIXTY_COUNTS),))
NONE_TOUCH = one_nest((0, ((0, 12, 3, 1),), (0, 0, 0, 0), ()), loops=SIXTY_COUNTS)
ROUNDS = [[0], [1], [2, 6], [3], [4, 7], [5], [8]]
GREATEST = int("9" * 60)

SMALL = [
    one_nest(at(0), at(1), at(2), at(3)), one_nest(at(0), at(1, 0), at(2, 1), at(3, 2)),
    one_nest(at(0, 3), at(1), at(0), at(2, 1)), one_nest(at(0), at(0), at(0), at(0)),
    one_nest(at(0, 1), at(1, 0), at(2, 9), at(3, 9)), one_nest(at(0), at(1, 0), at(2, 0), at(0, 2)),
    one_nest(at(0), at(1), at(2, 0, 1), at(1)),
    program_of((1, 1), ((ONE_LOOP, (at(0), (1, ((0, 0),), (0, 0), ()))), (ONE_LOOP, (at(3, 0),)), (ONE_LOOP, (at(4, 3),)))),
]


def of_six(*lines):
    return ((lines,),)


def is_so(program, lists):
    """Whether lists are rounds, by the words of the document."""
    if sorted(step for listed in lists for step in listed) != plain(program):
        return False
    where = {step: number for number, listed in enumerate(lists) for step in listed}
    for i, j in itertools.combinations(plain(program), 2):
        if touches(program, i, j) and (where[i] == where[j] or where[i] > where[j]):
            return False
    return True


def all_lists(program, number):
    """Each way to put the steps in so many lists."""
    for chosen in itertools.product(range(number), repeat=len(plain(program))):
        yield [[step for step in plain(program) if chosen[step] == at] for at in range(number)]


class Rounds(unittest.TestCase):
    def look(self, program, wanted=None):
        told, chain = rounds(program)
        if wanted is not None:
            self.assertEqual(told, wanted)
        self.assertIs(are_rounds(program, told), True)
        self.assertIsInstance(told, list)
        self.assertIsInstance(chain, list)
        for listed in told:
            self.assertIsInstance(listed, list)
            self.assertNotEqual(listed, [])
            self.assertEqual(listed, sorted(listed))
        self.assertEqual(len(chain), len(told))
        self.assertEqual(chain, sorted(set(chain)))
        self.assertTrue(all(step in plain(program) for step in chain))
        for one, following in zip(chain, chain[1:]):
            self.assertIs(touches(program, one, following), True)

    def test_rounds_and_the_chain(self):
        self.assertEqual(rounds(PROGRAM), (ROUNDS, [0, 1, 2, 3, 4, 5, 8]))
        self.assertIsInstance(rounds(PROGRAM), tuple)
        self.look(PROGRAM, ROUNDS)

    def test_three_nests_and_tables(self):
        self.look(TRIPLE, [[0, 1], [2, 4], [3], [5, 6], [7]])
        self.assertIn(rounds(TRIPLE)[1], ([0, 2, 3, 5, 7], [0, 2, 3, 6, 7]))

    def test_no_steps_and_one_step(self):
        self.assertEqual(rounds(EMPTY), ([], []))
        self.assertEqual(rounds(one_nest(at(0, 0))), ([[0]], [0]))

    def test_no_two_touch(self):
        self.look(NONE_TOUCH, [list(range(60))])

    def test_each_two_touch(self):
        self.assertEqual(rounds(ALL_TOUCH), ([[step] for step in range(60)], list(range(60))))

    def test_a_chain_that_leaves_steps_out(self):
        # 3 touches 0 and 2; 2 touches 1; 0 and 1 don't touch.
        program = one_nest(at(0), at(1), at(2, 1), at(3, 0, 2))
        self.assertEqual(rounds(program), ([[0, 1], [2], [3]], [1, 2, 3]))

    def test_a_chain_through_the_right_one_of_a_round(self):
        # 0 and 1 are both in the first round, but 2 touches 1 alone.
        program = one_nest(at(0), at(1), at(2, 1), at(4, 2))
        self.assertEqual(rounds(program), ([[0, 1], [2], [3]], [1, 2, 3]))

    def test_the_last_step_need_not_be_in_the_last_round(self):
        program = one_nest(at(0), at(1, 0), at(2, 1), at(9))
        self.assertEqual(rounds(program), ([[0, 3], [1], [2]], [0, 1, 2]))

    def test_reads_ahead_of_a_setting_go_ahead_of_it(self):
        # a[i] from a[i + 2].
        program = one_nest((0, ((0, 1),), (0, 0), ((1, 0, ((2, 1),)),)), loops=(((0,), (5,)),))
        self.look(program, [[0, 1], [2, 3], [4]])

    def test_a_wave_over_two_counts(self):
        # b[i][j] from b[i - 1][j] and b[i][j - 1]: the rounds go by i + j.
        place = ((0, 1, 0), (0, 0, 1))
        reads = ((1, 0, ((-1, 1, 0), (0, 0, 1))), (1, 0, ((0, 1, 0), (-1, 0, 1))))
        program = one_nest((0, place, (0, 0, 0), reads), loops=(((0,), (3,)), ((0, 0), (4, 0))), widths=(2,))
        self.look(program, [[0], [1, 4], [2, 5, 8], [3, 6, 9], [7, 10], [11]])

    def test_families(self):
        for program in some_programs() + SMALL:
            self.look(program)

    def test_no_rounds_are_fewer_and_no_step_is_in_an_earlier_one(self):
        for program in SMALL:
            told = rounds(program)[0]
            where = {step: number for number, listed in enumerate(told) for step in listed}
            for number in range(len(told)):
                self.assertFalse(any(is_so(program, lists) for lists in all_lists(program, number)))
            earliest = {step: 99 for step in where}
            for lists in all_lists(program, 4):
                if is_so(program, lists):
                    for number, listed in enumerate(lists):
                        earliest.update({step: min(earliest[step], number) for step in listed})
            self.assertEqual(where, earliest)

    def test_the_rounds_one_behind_the_other_keep(self):
        for program in some_programs()[::4] + SMALL + [PROGRAM, TRIPLE]:
            told = rounds(program)[0]
            for order in ([step for listed in told for step in listed], [step for listed in told for step in listed[::-1]]):
                self.assertIsNone(broken(program, order))
                self.assertEqual(compared(program, plain(program), order), ("alike",))


class AreRounds(unittest.TestCase):
    def so(self, program, lists):
        self.assertIs(are_rounds(program, lists), True, lists)

    def not_so(self, program, lists):
        self.assertIs(are_rounds(program, lists), False, lists)

    def test_lists_that_are_rounds(self):
        self.so(PROGRAM, ROUNDS)
        self.so(PROGRAM, [[step] for step in range(9)])
        self.so(PROGRAM, [[0], [1], [2], [3], [4, 7], [5], [8, 6]])

    def test_steps_within_a_list_may_stand_anyhow(self):
        self.so(PROGRAM, [[0], [1], [6, 2], [3], [7, 4], [5], [8]])

    def test_lists_without_steps_among_them(self):
        self.so(PROGRAM, [[]] + ROUNDS + [[], []])
        self.so(PROGRAM, [[0], [], [1], [2, 6], [], [], [3], [4, 7], [5], [8]])
        self.not_so(PROGRAM, [[], [0, 1], [2, 6], [3], [4, 7], [5], [8], []])

    def test_no_steps(self):
        for lists in ([], [[]], [[], [], []]):
            self.so(EMPTY, lists)
            self.not_so(PROGRAM, lists)
        for lists in ([[0]], [[], [0]], [[-1]], [[99]]):
            self.not_so(EMPTY, lists)

    def test_one_step(self):
        program = one_nest(at(0, 0))
        self.so(program, [[0]])
        self.so(program, [[], [0]])
        for lists in ([], [[]], [[0, 0]], [[0], [0]], [[1]], [[-1]], [[0], [1]]):
            self.not_so(program, lists)

    def test_a_step_twice(self):
        self.not_so(PROGRAM, ROUNDS + [[6]])
        self.not_so(PROGRAM, ROUNDS + [[8]])
        self.not_so(PROGRAM, [[0, 0]] + ROUNDS[1:])
        self.not_so(PROGRAM, [[0], [1], [2, 6], [3, 6], [4, 7], [5], [8]])
        self.not_so(NONE_TOUCH, [list(range(60)), list(range(60))])
        # As many as there are steps, with one twice and one left out.
        self.not_so(PROGRAM, [[0], [1], [2, 6], [3], [4, 6], [5], [8]])

    def test_a_step_left_out(self):
        for step in range(9):
            self.not_so(PROGRAM, [[other for other in listed if other != step] for listed in ROUNDS])
        self.not_so(PROGRAM, ROUNDS[:-1])

    def test_a_step_that_is_not_there(self):
        for step in (9, 99, -1, -9, GREATEST, -GREATEST):
            self.not_so(PROGRAM, ROUNDS + [[step]])
            self.not_so(PROGRAM, ROUNDS[:-1] + [[step]])
            self.not_so(PROGRAM, ROUNDS[:-1] + [[8, step]])

    def test_two_that_touch_in_one_list(self):
        self.not_so(PROGRAM, [[0, 1], [2, 6], [3], [4, 7], [5], [8]])
        self.not_so(PROGRAM, [[0], [1, 6], [2], [3], [4, 7], [5], [8]])
        self.not_so(PROGRAM, [list(range(9))])
        self.so(NONE_TOUCH, [list(range(59, -1, -1))])

    def test_two_the_wrong_way_round(self):
        self.not_so(PROGRAM, ROUNDS[::-1])
        self.not_so(PROGRAM, [[1], [0], [2, 6], [3], [4, 7], [5], [8]])
        self.not_so(PROGRAM, [[0], [6], [1], [2], [3], [4, 7], [5], [8]])
        self.not_so(PROGRAM, [[0], [1], [2, 6], [3], [4, 7], [8], [5]])

    def test_all_lists_of_small_programs(self):
        for program in SMALL:
            for number in range(1, 5):
                for lists in all_lists(program, number):
                    self.assertIs(are_rounds(program, lists), is_so(program, lists))


class Barring(Refusing):
    def test_each_line_of_the_plain_plan(self):
        told = [barring(PROGRAM, plain_plan(PROGRAM), a) for a in range(5)]
        self.assertEqual(told, [(0, 6), (1, 2), None, None, (0, 1)])
        self.assertIsInstance(told[0], tuple)

    def test_three_nests_and_tables(self):
        told = [barring(TRIPLE, plain_plan(TRIPLE), a) for a in range(5)]
        self.assertEqual(told, [(0, 2), None, (3, 5), (6, 7), (2, 3)])

    def test_a_program_without_steps(self):
        self.assertEqual([barring(EMPTY, plain_plan(EMPTY), a) for a in range(5)], [None] * 5)

    def test_steps_that_do_not_touch_bar_nothing(self):
        self.assertEqual([barring(NONE_TOUCH, plain_plan(NONE_TOUCH), a) for a in range(5)], [None] * 5)

    def test_all_steps_touch(self):
        told = [barring(ALL_TOUCH, plain_plan(ALL_TOUCH), a) for a in range(5)]
        # Twelve steps for each first count, three for each second one.
        self.assertEqual(told, [None, (0, 12), (0, 3), (0, 1), None])

    def test_keys_are_to_be_the_same_ahead_of_the_line(self):
        plan = of_six(block(2, 0, 1), form(0, 1))
        # Blocks of the counts from -3 on: -3; -2 and -1; 0 and 1; 2.
        self.assertEqual(barring(SIX, plan, 0), (0, 1))
        self.assertEqual(barring(SIX, plan, 1), (1, 2))
        plan = of_six(form(0, 1), block(2, 0, 1))
        self.assertEqual(barring(SIX, plan, 0), (0, 1))
        self.assertIsNone(barring(SIX, plan, 1))

    def test_what_keys_have_behind_the_line_does_not_count(self):
        plan = of_six(form(4, 0), form(0, 1), form(0, -1))
        self.assertEqual([barring(SIX, plan, a) for a in range(3)], [None, (0, 1), None])

    def test_keys_that_fall_are_unlike_too(self):
        self.assertEqual(barring(SIX, of_six(form(0, -1)), 0), (0, 1))
        # 3, 2, 1, 0, -1, -2 in blocks of four.
        self.assertEqual(barring(SIX, of_six(block(4, 0, -1)), 0), (0, 4))

    def test_steps_with_one_key_are_not_refused(self):
        self.assertIsNone(barring(SIX, of_six(form(7, 0)), 0))
        self.assertEqual(barring(SIX, of_six(block(3, 0, 1)), 0), (0, 3))

    def test_the_first_pair_by_i_then_j(self):
        # All four set one cell, so each two touch.
        program = one_nest(at(0), at(0), at(0), at(0))
        for numbers in itertools.product(range(2), repeat=4):
            plan = (tuple((form(number, 0),) for number in numbers),)
            unlike = [(i, j) for i, j in itertools.combinations(range(4), 2) if numbers[i] != numbers[j]]
            self.assertEqual(barring(program, plan, 0), unlike[0] if unlike else None)

    def test_turned_plans(self):
        # a[i][j] from a[i - 1][j + 1]: touching steps have one i + j.
        place = ((0, 1, 0), (0, 0, 1))
        reads = ((1, 0, ((-1, 1, 0), (1, 0, 1))),)
        program = one_nest((0, place, (0, 0, 0), reads), loops=(((0,), (3,)), ((0, 0), (3, 0))), widths=(2,))
        plan = plain_plan(program)
        # The steps 1 at (0, 1) and 3 at (1, 0) are the first that touch.
        self.assertEqual([barring(program, plan, a) for a in range(5)], [None, (1, 3), None, None, None])
        turned = exchanged(program, plan, 0, 1, 2)
        self.assertEqual([barring(program, turned, a) for a in range(5)], [None, (1, 3), None, None, None])
        slant = slanted(program, plan, 0, 1, 2, 1)
        self.assertEqual([barring(program, slant, a) for a in range(5)], [None, None, (1, 3), None, None])
        self.assertEqual(barring(program, backward(program, slant, 0, 2), 2), (1, 3))
        # In blocks of three along i all steps are in one block.
        self.assertIsNone(barring(program, blocked(program, plan, 0, 1, 3), 1))
        self.assertEqual(barring(program, blocked(program, plan, 0, 1, 3), 2), (1, 3))
        # In blocks of two along i: 0 and 1; 2. The steps 4 at (1, 1) and 6 at (2, 0) touch.
        self.assertEqual(barring(program, blocked(program, plan, 0, 1, 2), 1), (4, 6))

    def test_by_the_words_of_the_document(self):
        for program in some_programs() + [PROGRAM, TRIPLE]:
            plan = plain_plan(program)
            for turned in (plan, exchanged(program, plan, 0, 0, 1), blocked(program, plan, len(plan) - 1, 1, 2),
                           slanted(program, plan, 0, 0, 1, -2)):
                told_keys = keys(program, turned)
                for a in range(len(turned[0][0])):
                    wanted = [(i, j) for i, j in itertools.combinations(plain(program), 2)
                              if touches(program, i, j) and told_keys[i][:a] == told_keys[j][:a]
                              and told_keys[i][a] != told_keys[j][a]]
                    self.assertEqual(barring(program, turned, a), wanted[0] if wanted else None)

    def test_where_a_line_is_free_steps_may_change_places(self):
        # Four steps: deeds a[i] and b[i] from a[i], by i, then deed: the line of i is free.
        program = one_nest((0, ((0, 1),), (1, 0), ()), (1, ((0, 1),), (0, 0), ((1, 0, ((0, 1),)),)),
                           loops=(((0,), (2,)),), widths=(1, 1))
        found = 0
        for plan in (plain_plan(program), (((form(0, 1), form(0, 0)), (form(0, 1), form(1, 0))),)):
            self.assertIsNone(broken(program, order_of(program, plan)))
            told_keys = keys(program, plan)
            order = order_of(program, plan)
            for a in range(len(plan[0][0])):
                if barring(program, plan, a) is None:
                    for other in itertools.permutations(order):
                        ahead = [told_keys[step][:a] for step in other]
                        stay = all(other.index(i) < other.index(j) for i, j in itertools.combinations(order, 2)
                                   if told_keys[i][:a + 1] == told_keys[j][:a + 1])
                        if ahead == sorted(ahead) and stay:
                            found += 1
                            self.assertIsNone(broken(program, list(other)))
        self.assertGreater(found, 6)

    def test_lines_that_are_not_there(self):
        for program, plan in ((PROGRAM, plain_plan(PROGRAM)), (EMPTY, plain_plan(EMPTY)), (SIX, of_six(form(0, 1))),
                              (SIX, of_six(*[form(0, 1)] * 9))):
            for a in (-1, 99, -2, -5, len(plan[0][0]), 10, GREATEST, -GREATEST):
                self.refused(NoTurn, barring, program, plan, a)

    def test_the_last_of_nine_lines(self):
        plan = of_six(*[form(0, 0)] * 8, form(0, 1))
        self.assertEqual([barring(SIX, plan, a) for a in range(9)], [None] * 8 + [(0, 1)])

    def test_what_is_no_plan_is_refused_ahead_of_lines_that_are_not_there(self):
        things = NOT_TUPLE + [(), ((),), of_six(), of_six(*[form(0, 1)] * 10), of_six(form(0)), plain_plan(PROGRAM),
                              of_six(block(0, 0, 1)), of_six(block(100, 0, 1)), ([form(0, 1)],), of_six(form(True, 1))]
        for thing in things:
            for a in (0, 1, -1, 99):
                self.refused(NoPlan, barring, SIX, thing, a)


class NothingKept(Refusing):
    def test_what_is_handed_in_stays_and_equal_things_are_told_again(self):
        program, plan, lists = copy.deepcopy(PROGRAM), plain_plan(PROGRAM), copy.deepcopy(ROUNDS)
        one = [rounds(program), are_rounds(program, lists), [barring(program, plan, a) for a in range(5)]]
        self.assertEqual([rounds(program), are_rounds(program, lists), [barring(program, plan, a) for a in range(5)]], one)
        self.assertEqual((program, plan, lists), (PROGRAM, plain_plan(PROGRAM), ROUNDS))

    def test_lists_that_are_no_rounds_stay_too(self):
        for listed in ([[0, 1]], [[], [8, 0], []], [[99], [-1]], ROUNDS[::-1]):
            lists = copy.deepcopy(listed)
            self.assertIs(are_rounds(PROGRAM, lists), False)
            self.assertEqual(lists, listed)

    def test_changing_what_is_told_changes_no_later_answer(self):
        for program in (PROGRAM, EMPTY, TRIPLE):
            kept = copy.deepcopy(rounds(program))
            told, chain = rounds(program)
            for listed in told:
                listed.append(99)
            told.append([])
            chain.append(99)
            self.assertEqual(rounds(program), kept)

    def test_no_two_told_lists_are_one(self):
        told = []
        for program in (PROGRAM, PROGRAM, EMPTY, EMPTY, one_nest(at(0))):
            listed, chain = rounds(program)
            told += [listed, chain] + listed
        self.assertEqual(len({id(each) for each in told}), len(told))

    def test_told_rounds_may_be_handed_in(self):
        told = rounds(PROGRAM)[0]
        self.assertIs(are_rounds(PROGRAM, told), True)
        told[0].append(8)
        self.assertIs(are_rounds(PROGRAM, told), False)


if __name__ == "__main__":
    unittest.main()
