import copy
import itertools
import unittest

from nestturn.best import best, freeing, reach, turned_by, turnings
from nestturn.errors import NoOrder
from nestturn.keeping import broken
from nestturn.plans import is_plan, order_of, plain_plan
from nestturn.programs import cells_of, program_of, steps_of
from nestturn.rounds import barring
from nestturn.runs import plain
from nestturn.touch import touches
from nestturn.turns import backward, exchanged
from refusing import Refusing
from samples import (
    NO_COUNTS, PROGRAM, SIXTY_COUNTS, TRIPLE, TWENTY_COUNTS, at, form, one_nest, plain_nest, some_programs, zero_form,
)

EMPTY = program_of((1,), (plain_nest(NO_COUNTS),))
THREE = (((0,), (3,)),)
TWO_BY_THREE = (((0,), (2,)), ((0, 0), (3, 0)))
ALL_TOUCH = program_of((1,), (plain_nest(SIXTY_COUNTS),))
NONE_TOUCH = one_nest((0, ((0, 12, 3, 1),), zero_form(3), ()), loops=SIXTY_COUNTS)
PLAIN = list(range(9))
NO_ORDERS = [
    [], [0], PLAIN[:-1], PLAIN[1:], PLAIN + [8], PLAIN + [9], PLAIN[:-1] + [9], PLAIN[:-1] + [0], PLAIN[:-1] + [-1],
    [-9] + PLAIN[1:], PLAIN + PLAIN, PLAIN[:-1] + [10 ** 59], PLAIN[:-1] + [-10 ** 59], [99],
]
NO_LISTS = [[False, True] + PLAIN[2:], PLAIN[:-1] + [None], PLAIN[:-1] + ["8"], tuple(PLAIN), None, "012345678", {}]

ALL_OF_ONE = [((0,), (1,)), ((0,), (-1,))]
ALL_OF_TWO = [
    ((0, 1), (1, 1)), ((0, 1), (1, -1)), ((0, 1), (-1, 1)), ((0, 1), (-1, -1)),
    ((1, 0), (1, 1)), ((1, 0), (1, -1)), ((1, 0), (-1, 1)), ((1, 0), (-1, -1)),
]


def sets(*place, reads=(), start=None, table=0):
    """A deed that sets the cell at the place and reads others of the same table, each told by its place."""
    d = len(place[0]) - 1
    return (table, place, start or zero_form(d), tuple((1, table, read) for read in reads))


def two_wide(*reads):
    """A program of two by three steps that set a[i][j] and read others, each told by how far it is from there."""
    places = tuple(((i, 1, 0), (j, 0, 1)) for i, j in reads)
    return one_nest(sets((0, 1, 0), (0, 0, 1), reads=places), loops=TWO_BY_THREE, widths=(2,))


def order_by_the_words(program, nest, turning):
    """The steps by nests, then by the turned counts, then by deeds: sorted without a plan."""
    lines, signs = turning
    steps = steps_of(program)

    def key(number):
        at_nest, counts, deed = steps[number]
        if at_nest == nest:
            counts = tuple(sign * counts[line] for line, sign in zip(lines, signs))
        return (at_nest, counts, deed)
    return sorted(range(len(steps)), key=key)


def all_turnings(d):
    return list(itertools.product(itertools.permutations(range(d)), itertools.product((1, -1), repeat=d)))


def keeps(program, order):
    return all(not touches(program, i, j) or order.index(i) < order.index(j)
               for i, j in itertools.combinations(plain(program), 2))


def reach_by_the_words(program, order):
    cells = [cells_of(program)[step][0] for step in order]
    total = 0
    for k in range(1, len(cells)):
        one, other = cells[k - 1], cells[k]
        total += sum(abs(p - q) for p, q in zip(one[1], other[1])) if one[0] == other[0] else 100
    return total


def asked_nests():
    """Some programs with each of their nests."""
    programs = some_programs()[::2] + [PROGRAM, TRIPLE, EMPTY, two_wide((-1, 1)), two_wide((0, -1), (1, -2))]
    return [(program, nest) for program in programs for nest in range(len(program[1]))]


class Reach(Refusing):
    def test_by_hand(self):
        # a0 b01 a1 b10 a2 b2-1 a0 a1 a2: six times from table to table, then two neighbours.
        self.assertEqual(reach(PROGRAM, PLAIN), 602)
        self.assertEqual(reach(PROGRAM, PLAIN[::-1]), 602)
        # a0 a1 a2, then b01 b10 b2-1, then a0 a1 a2.
        self.assertEqual(reach(PROGRAM, [0, 2, 4, 1, 3, 5, 6, 7, 8]), 2 + 100 + 4 + 100 + 2)
        # b01 b2-1 b10, then a1 a1 a0 a0 a2 a2.
        self.assertEqual(reach(PROGRAM, [1, 5, 3, 2, 7, 0, 6, 4, 8]), 4 + 2 + 100 + 0 + 1 + 0 + 2 + 0)

    def test_three_tables(self):
        # a0 a1, b10 c1 b20 c2, a0 a1.
        self.assertEqual(reach(TRIPLE, list(range(8))), 1 + 100 + 100 + 100 + 100 + 100 + 1)
        # a0 a0 a1 a1, b10 b20, c1 c2.
        self.assertEqual(reach(TRIPLE, [0, 6, 1, 7, 2, 4, 3, 5]), 0 + 1 + 0 + 100 + 1 + 100 + 1)

    def test_unlike_tables_at_the_same_place(self):
        deeds = (sets((3, 0)), sets((3, 0), table=1), sets((3, 0), table=2), sets((99, 0), table=2))
        program = one_nest(*deeds, widths=(1, 1, 1))
        self.assertEqual(reach(program, [0, 1, 2, 3]), 296)
        self.assertEqual(reach(program, [3, 0, 2, 1]), 300)

    def test_far_apart_in_one_table(self):
        program = one_nest(at(-99), at(99), at(-3), at(2))
        self.assertEqual(reach(program, [0, 1, 2, 3]), 198 + 102 + 5)
        self.assertEqual(reach(program, [0, 2, 3, 1]), 96 + 5 + 97)

    def test_places_two_wide(self):
        deeds = (sets((1, 0), (5, 0)), sets((4, 0), (3, 0)), sets((-2, 0), (3, 0)), sets((-2, 0), (-1, 0)))
        program = one_nest(*deeds, widths=(2,))
        self.assertEqual(reach(program, [0, 1, 2, 3]), 5 + 6 + 4)
        self.assertEqual(reach(program, [2, 0, 3, 1]), 5 + 9 + 10)

    def test_orders_of_one_step_and_of_none(self):
        self.assertEqual(reach(one_nest(at(7)), [0]), 0)
        self.assertEqual(reach(EMPTY, []), 0)

    def test_two_steps_that_set_one_cell(self):
        self.assertEqual(reach(one_nest(at(4), at(4, 1)), [1, 0]), 0)

    def test_sixty_steps(self):
        self.assertEqual(reach(NONE_TOUCH, list(range(60))), 59)
        self.assertEqual(reach(NONE_TOUCH, list(range(0, 60, 2)) + list(range(1, 60, 2))), 58 + 57 + 58)
        self.assertEqual(reach(ALL_TOUCH, list(range(59, -1, -1))), 0)

    def test_the_order_need_not_keep(self):
        for order in itertools.islice(itertools.permutations(range(8)), 0, None, 977):
            self.assertEqual(reach(TRIPLE, list(order)), reach_by_the_words(TRIPLE, order))

    def test_what_is_no_order(self):
        for order in NO_ORDERS + NO_LISTS:
            self.refused(NoOrder, reach, PROGRAM, order)
        self.refused(NoOrder, reach, EMPTY, [0])
        self.refused(NoOrder, reach, one_nest(at(0)), [])
        self.refused(NoOrder, reach, one_nest(at(0)), [0, 0])
        self.refused(NoOrder, reach, one_nest(at(0)), [-1])


class Turnings(unittest.TestCase):
    def test_of_one_loop(self):
        self.assertEqual(turnings(PROGRAM, 0), ALL_OF_ONE)
        self.assertEqual(turnings(TRIPLE, 0), ALL_OF_ONE)

    def test_of_two_loops(self):
        self.assertEqual(turnings(PROGRAM, 1), ALL_OF_TWO)
        self.assertEqual(turnings(TRIPLE, 1), ALL_OF_TWO)

    def test_of_three_loops(self):
        told = turnings(TRIPLE, 2)
        self.assertEqual(len(told), 48)
        self.assertEqual([lines for lines, signs in told[::8]], [
            (0, 1, 2), (0, 2, 1), (1, 0, 2), (1, 2, 0), (2, 0, 1), (2, 1, 0)])
        for k in range(0, 48, 8):
            self.assertEqual([signs for lines, signs in told[k:k + 8]], [
                (1, 1, 1), (1, 1, -1), (1, -1, 1), (1, -1, -1), (-1, 1, 1), (-1, 1, -1), (-1, -1, 1), (-1, -1, -1)])
            self.assertEqual(len({lines for lines, signs in told[k:k + 8]}), 1)
        self.assertEqual(told, all_turnings(3))
        self.assertEqual(turnings(ALL_TOUCH, 0), told)

    def test_nests_without_counts(self):
        self.assertEqual(turnings(EMPTY, 0), ALL_OF_ONE)
        loops = (((0,), (0,)), ((0, 0), (3, 0)))
        self.assertEqual(turnings(one_nest(sets((0, 0, 0)), loops=loops), 0), ALL_OF_TWO)

    def test_kinds(self):
        for lines, signs in turnings(TRIPLE, 2) + turnings(TRIPLE, 1) + turnings(TRIPLE, 0):
            for numbers in (lines, signs):
                self.assertIs(type(numbers), tuple)
                self.assertEqual({type(number) for number in numbers}, {int})


class TurnedBy(unittest.TestCase):
    def test_one_loop_and_two_deeds(self):
        self.assertEqual(turned_by(PROGRAM, 0, ((0,), (-1,))), (
            (
                (form(0, 0), form(0, -1), form(0, 0), form(0, 0), form(0, 0)),
                (form(0, 0), form(0, -1), form(0, 0), form(0, 0), form(1, 0)),
            ),
            ((form(1, 0, 0), form(0, 1, 0), form(0, 0, 1), form(0, 0, 0), form(0, 0, 0)),),
        ))

    def test_two_loops(self):
        told = turned_by(PROGRAM, 1, ((1, 0), (-1, 1)))
        self.assertEqual(told[0], plain_plan(PROGRAM)[0])
        self.assertEqual(told[1], ((form(1, 0, 0), form(0, 0, -1), form(0, 1, 0), form(0, 0, 0), form(0, 0, 0)),))
        told = turned_by(TRIPLE, 1, ((0, 1), (-1, 1)))
        self.assertEqual(told[1], (
            (form(1, 0, 0), form(0, -1, 0), form(0, 0, 1), form(0, 0, 0), form(0, 0, 0)),
            (form(1, 0, 0), form(0, -1, 0), form(0, 0, 1), form(0, 0, 0), form(1, 0, 0)),
        ))

    def test_three_loops(self):
        told = turned_by(TRIPLE, 2, ((2, 0, 1), (1, -1, -1)))
        self.assertEqual(told[:2], plain_plan(TRIPLE)[:2])
        self.assertEqual(told[2], (
            (form(2, 0, 0, 0), form(0, 0, 0, 1), form(0, -1, 0, 0), form(0, 0, -1, 0), form(0, 0, 0, 0)),))

    def test_the_plain_turning(self):
        for program in some_programs() + [PROGRAM, TRIPLE, EMPTY, ALL_TOUCH]:
            for nest in range(len(program[1])):
                self.assertEqual(turned_by(program, nest, turnings(program, nest)[0]), plain_plan(program))

    def test_each_is_a_plan_by_which_no_two_steps_are_tied(self):
        for program, nest in asked_nests():
            for turning in turnings(program, nest):
                plan = turned_by(program, nest, turning)
                self.assertIs(is_plan(program, plan), True)
                self.assertEqual(order_of(program, plan), order_by_the_words(program, nest, turning))

    def test_the_same_by_turns_of_the_plain_plan(self):
        plan = plain_plan(TRIPLE)
        turned = backward(TRIPLE, exchanged(TRIPLE, plan, 2, 1, 3), 2, 2)
        self.assertEqual(turned_by(TRIPLE, 2, ((2, 1, 0), (1, -1, 1))), turned)
        self.assertEqual(turned_by(TRIPLE, 0, ((0,), (-1,))), backward(TRIPLE, plan, 0, 1))


class Best(unittest.TestCase):
    def test_another_turning_than_the_plain_one(self):
        # a[i + 10 j]: by j, then i 0 1 10 11 20 21; both counts backward it reaches no farther.
        program = one_nest(sets((0, 1, 10)), loops=TWO_BY_THREE)
        self.assertEqual(best(program, 0), (1 + 9 + 1 + 9 + 1, ((1, 0), (1, 1))))
        # a[i - 10 j]: 0 1 -10 -9 -20 -19 by j, then i, and less far 1 0 -9 -10 -19 -20.
        program = one_nest(sets((0, 1, -10)), loops=TWO_BY_THREE)
        self.assertEqual(best(program, 0), (1 + 9 + 1 + 9 + 1, ((1, 0), (1, -1))))

    def test_backward_toward_the_nest_behind(self):
        ahead = (THREE, (sets((0, 1)),))
        behind = ((((0,), (1,)),), (sets((-1, 0)),))
        program = program_of((1,), (ahead, behind))
        self.assertEqual(reach(program, [0, 1, 2, 3]), 5)
        self.assertEqual(best(program, 0), (3, ((0,), (-1,))))
        self.assertEqual(best(program, 1), (5, ((0,), (1,))))

    def test_a_nest_of_which_the_plain_turning_alone_keeps(self):
        chain = one_nest(sets((0, 1), reads=(((-1, 1),),)), loops=THREE)
        self.assertEqual(best(chain, 0), (2, ((0,), (1,))))
        same = one_nest(sets((0, 0, 0)), loops=TWENTY_COUNTS)
        self.assertEqual(best(same, 0), (0, ((0, 1), (1, 1))))
        self.assertEqual(best(ALL_TOUCH, 0), (0, ((0, 1, 2), (1, 1, 1))))
        # By j, then i it reached less, but each count sets a[-1], too.
        barred = one_nest(sets((0, 1, 10)), sets((-1, 0, 0)), loops=TWO_BY_THREE)
        self.assertEqual(best(barred, 0)[1], ((0, 1), (1, 1)))

    def test_the_plain_turning_of_several_that_keep_with_the_same_reach(self):
        program = one_nest(sets((0, 1)), loops=THREE)
        self.assertEqual([reach(program, order) for order in ([0, 1, 2], [2, 1, 0])], [2, 2])
        self.assertEqual(best(program, 0), (2, ((0,), (1,))))
        self.assertEqual(best(two_wide(), 0), (7, ((0, 1), (1, 1))))

    def test_a_turning_that_does_not_keep_reaches_less(self):
        # a[i + 10 j] reads a[i - 1 + 10 (j + 1)], so i stays ahead of j, or j goes backward.
        program = one_nest(sets((0, 1, 10), reads=(((9, 1, 10),),)), loops=TWO_BY_THREE)
        self.assertEqual(reach_by_the_words(program, order_by_the_words(program, 0, ((1, 0), (1, 1)))), 21)
        self.assertEqual(best(program, 0), (21, ((1, 0), (-1, -1))))

    def test_three_loops(self):
        # The count of the last loop moves the place by 12, of the first one by 1.
        loops = (((0,), (3,)), ((0, 0), (4, 0)), ((0, 0, 0), (5, 0, 0)))
        program = one_nest(sets((0, 1, 3, 12)), loops=loops)
        self.assertEqual(best(program, 0), (59, ((2, 1, 0), (1, 1, 1))))
        self.assertEqual(best(NONE_TOUCH, 0), (59, ((0, 1, 2), (1, 1, 1))))

    def test_each_nest_of_three(self):
        # a0 a1, b10 c1 b20 c2, a0 a1, and no other order of the nests 1 and 2 keeps and reaches less.
        self.assertEqual(best(TRIPLE, 0), (502, ((0,), (1,))))
        self.assertEqual(best(TRIPLE, 1), (502, ((0, 1), (1, 1))))
        self.assertEqual(best(TRIPLE, 2), (502, ((0, 1, 2), (1, 1, 1))))

    def test_programs_and_nests_without_steps(self):
        self.assertEqual(best(EMPTY, 0), (0, ((0,), (1,))))
        program = program_of((1,), ((THREE, (sets((0, 2)),)), plain_nest((((0,), (0,)), ((0, 0), (2, 0))))))
        self.assertEqual(best(program, 1), (4, ((0, 1), (1, 1))))

    def test_one_step(self):
        self.assertEqual(best(one_nest(at(5)), 0), (0, ((0,), (1,))))

    def test_the_least_of_all_that_keep(self):
        unlike = set()
        for program, nest in asked_nests():
            least = None
            for turning in all_turnings(len(program[1][nest][0])):
                order = order_by_the_words(program, nest, turning)
                if keeps(program, order):
                    far = reach_by_the_words(program, order)
                    if least is None or far < least[0]:
                        least = (far, turning)
            self.assertEqual(best(program, nest), least)
            unlike.add(least[1])
        self.assertGreater(len(unlike), 4)


class Freeing(unittest.TestCase):
    def test_nothing_touches(self):
        self.assertEqual(freeing(one_nest(sets((0, 1)), loops=THREE), 0), ALL_OF_ONE)
        self.assertEqual(freeing(two_wide(), 0), ALL_OF_TWO)
        self.assertEqual(freeing(NONE_TOUCH, 0), all_turnings(3))

    def test_none_frees(self):
        self.assertEqual(freeing(one_nest(sets((0, 1), reads=(((-1, 1),),)), loops=THREE), 0), [])
        self.assertEqual(freeing(two_wide((-1, 0), (0, -1)), 0), [])
        self.assertEqual(freeing(ALL_TOUCH, 0), [])

    def test_the_outer_count_carries_what_touches(self):
        # a[i][j] reads a[i - 1][j]: four turnings keep, in two of them the last line is that of j.
        self.assertEqual(freeing(two_wide((-1, 0)), 0), [((0, 1), (1, 1)), ((0, 1), (1, -1))])
        # a[i][j] reads a[i][j - 1].
        self.assertEqual(freeing(two_wide((0, -1)), 0), [((1, 0), (1, 1)), ((1, 0), (1, -1))])
        # a[i][j] reads a[i][j + 1], which is set behind it.
        self.assertEqual(freeing(two_wide((0, 1)), 0), [((1, 0), (1, 1)), ((1, 0), (1, -1))])

    def test_both_counts_carry_what_touches(self):
        # a[i][j] reads a[i - 1][j + 1]: j may go ahead of i where it goes backward.
        self.assertEqual(freeing(two_wide((-1, 1)), 0), [
            ((0, 1), (1, 1)), ((0, 1), (1, -1)), ((1, 0), (-1, 1)), ((1, 0), (-1, -1))])
        # a[i][j] reads a[i - 1][j - 1].
        self.assertEqual(freeing(two_wide((-1, -1)), 0), [
            ((0, 1), (1, 1)), ((0, 1), (1, -1)), ((1, 0), (1, 1)), ((1, 0), (1, -1))])

    def test_three_loops(self):
        # a[9 i + 3 j + k] reads the cell 3 ahead of it: j alone carries what touches.
        loops = (((0,), (2,)), ((0, 0), (2, 0)), ((0, 0, 0), (2, 0, 0)))
        program = one_nest(sets((0, 9, 3, 1), reads=(((-3, 9, 3, 1),),)), loops=loops)
        told = freeing(program, 0)
        self.assertEqual([lines for lines, signs in told[::4]], [(0, 1, 2), (1, 0, 2), (1, 2, 0), (2, 1, 0)])
        for lines, signs in told:
            self.assertEqual(signs[lines.index(1)], 1)
            self.assertNotEqual(lines[2], 1)
        self.assertEqual(len(told), 16)

    def test_steps_that_touch_at_the_same_counts_bar_nothing(self):
        deeds = (sets((0, 1)), (1, ((0, 1),), (0, 0), ((1, 0, ((0, 1),)),)))
        self.assertEqual(freeing(one_nest(*deeds, loops=THREE, widths=(1, 1)), 0), ALL_OF_ONE)

    def test_a_line_of_another_nest_bars_too(self):
        free = (THREE, (sets((0, 1)),))
        chain = (THREE, (sets((10, 1), reads=(((9, 1),),)),))
        program = program_of((1,), (free, chain))
        self.assertEqual(freeing(program, 0), [])
        self.assertEqual(freeing(program, 1), [])
        # The chain goes by its first count alone, and the line at 2 is free.
        wide = (TWO_BY_THREE, (sets((50, 3, 1)),))
        program = program_of((1,), (wide, chain))
        self.assertEqual(freeing(program, 0), ALL_OF_TWO)
        self.assertEqual(freeing(program, 1), [])

    def test_programs_without_steps(self):
        self.assertEqual(freeing(EMPTY, 0), ALL_OF_ONE)

    def test_as_the_words_tell(self):
        found = 0
        for program, nest in asked_nests():
            d = len(program[1][nest][0])
            wanted = []
            for turning in all_turnings(d):
                order = order_by_the_words(program, nest, turning)
                plan = turned_by(program, nest, turning)
                if keeps(program, order) and barring(program, plan, d) is None:
                    wanted.append(turning)
            self.assertEqual(freeing(program, nest), wanted)
            found += len(wanted)
        self.assertGreater(found, 20)

    def test_told_turnings_keep(self):
        for program, nest in asked_nests():
            for turning in freeing(program, nest) + [best(program, nest)[1]]:
                self.assertIsNone(broken(program, order_of(program, turned_by(program, nest, turning))))


class NothingKept(unittest.TestCase):
    def test_what_is_handed_in_stays_and_equal_things_are_told_again(self):
        program, order, turning = copy.deepcopy(TRIPLE), [7, 1, 0, 2, 3, 4, 6, 5], ((1, 0), (-1, 1))

        def asked():
            return [reach(program, order), turnings(program, 1), turned_by(program, 1, turning), best(program, 2),
                    freeing(program, 0)]
        told = asked()
        self.assertEqual(asked(), told)
        self.assertEqual((program, order, turning), (TRIPLE, [7, 1, 0, 2, 3, 4, 6, 5], ((1, 0), (-1, 1))))

    def test_an_order_that_is_none_stays_too(self):
        order = [8, 8, 0]
        with self.assertRaises(NoOrder):
            reach(PROGRAM, order)
        self.assertEqual(order, [8, 8, 0])

    def test_changing_what_is_told_changes_no_later_answer(self):
        for tell in (turnings, freeing):
            told = tell(EMPTY, 0)
            told.clear()
            self.assertEqual(tell(EMPTY, 0), ALL_OF_ONE)
            self.assertIsNot(tell(EMPTY, 0), tell(EMPTY, 0))
        self.assertEqual(best(EMPTY, 0), (0, ((0,), (1,))))


if __name__ == "__main__":
    unittest.main()
