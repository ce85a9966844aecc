import copy
import itertools
import unittest

from nestturn.errors import NoOrder
from nestturn.keeping import broken, leads, led
from nestturn.plans import order_of, plain_plan
from nestturn.programs import program_of
from nestturn.runs import plain
from nestturn.touch import pairs, touches
from nestturn.turns import backward, exchanged
from refusing import Refusing
from samples import (
    NO_COUNTS, PROGRAM, SIXTY_COUNTS, TRIPLE, TRIPLE_TOUCHING, at, one_nest, plain_nest, some_programs,
)

EMPTY = program_of((1,), (plain_nest(NO_COUNTS),))
PLAIN = list(range(9))
# Of PROGRAM the step 6 touches 0 and 1 alone, 7 touches 1, 2 and 3, 8 touches 3, 4 and 5.
KEEPING = [
    PLAIN, [0, 1, 6, 2, 3, 4, 5, 7, 8], [0, 1, 2, 3, 7, 4, 5, 6, 8], [0, 1, 6, 2, 3, 7, 4, 5, 8],
    [0, 1, 2, 3, 4, 5, 8, 7, 6], [0, 1, 2, 3, 4, 7, 5, 8, 6],
]
BREAKING = [
    ([1, 0, 2, 3, 4, 5, 6, 7, 8], (0, 1)), ([8, 7, 6, 5, 4, 3, 2, 1, 0], (0, 1)), ([6, 0, 1, 2, 3, 4, 5, 7, 8], (0, 6)),
    ([0, 7, 6, 1, 2, 3, 4, 5, 8], (1, 6)), ([0, 7, 1, 6, 2, 3, 4, 5, 8], (1, 7)),
    ([0, 1, 2, 8, 4, 5, 6, 7, 3], (3, 4)), ([0, 1, 2, 3, 7, 8, 4, 5, 6], (4, 8)),
    ([0, 1, 7, 2, 3, 4, 5, 6, 8], (2, 7)), ([0, 1, 2, 3, 4, 6, 7, 8, 5], (5, 8)),
    # The pair (1, 2) lies nearer, but (0, 6) goes ahead of it.
    ([6, 0, 2, 1, 3, 4, 5, 7, 8], (0, 6)),
    # The other way round are (2, 3), (4, 8) and (5, 8).
    ([0, 1, 3, 8, 2, 4, 5, 6, 7], (2, 3)),
]
NO_ORDERS = [
    [0, 0, 2, 3, 4, 5, 6, 7, 8], PLAIN + [8], PLAIN + [0], PLAIN[:-1], PLAIN[1:], [], [0], PLAIN[:4] + PLAIN[5:],
    PLAIN[:-1] + [9], PLAIN + [9], PLAIN[:-1] + [-1], [-9] + PLAIN[1:], [-1] + PLAIN, PLAIN[:-1] + [10 ** 59],
    PLAIN[:-1] + [-10 ** 59], [99], [-1], [1, 2, 3, 4, 5, 6, 7, 8, 9], PLAIN + PLAIN,
]
NO_LISTS = [[False, True] + PLAIN[2:], PLAIN[:-1] + [None], PLAIN[:-1] + ["8"], tuple(PLAIN), None, "012345678", {}]

# Four and five steps that touch in several ways.
SMALL = [
    one_nest(at(0), at(1), at(2), at(3)),
    one_nest(at(0), at(1, 0), at(2, 1), at(3, 2)),
    one_nest(at(0, 3), at(1), at(0), at(2, 1)),
    one_nest(at(0), at(0), at(0), at(0)),
    one_nest(at(0, 1), at(1, 0), at(2, 9), at(3, 9)),
    one_nest(at(0), at(1, 0), at(2, 0), at(0, 2)),
    one_nest((0, ((0, 1),), (0, 0), ((1, 0, ((2, 1),)),)), loops=(((0,), (5,)),)),
    one_nest((0, ((0, 1),), (0, 0), ((1, 0, ((4, -1),)),)), loops=(((0,), (5,)),)),
    program_of((1, 1), (((((0,), (2,)),), (at(0), (1, ((0, 1),), (0, 0), ()))), ((((0,), (1,)),), (at(3, 0),)))),
]


def number_turned_about(order):
    return sum(order[p] > order[q] for p in range(len(order)) for q in range(p + 1, len(order)))


def after(program, exchanges):
    """The order that the exchanges come to, or None where one of them is no place or exchanges touching steps."""
    order = plain(program)
    for p in exchanges:
        if p not in range(len(order) - 1) or touches(program, order[p], order[p + 1]):
            return None
        order[p:p + 2] = [order[p + 1], order[p]]
    return order


class Broken(Refusing):
    def test_orders_that_keep(self):
        for order in KEEPING:
            self.assertIsNone(broken(PROGRAM, order), order)

    def test_the_first_touching_pair_the_other_way_round(self):
        for order, pair in BREAKING:
            told = broken(PROGRAM, order)
            self.assertEqual(told, pair, order)
            self.assertIsInstance(told, tuple)

    def test_no_steps_one_step_and_two(self):
        self.assertIsNone(broken(EMPTY, []))
        self.assertIsNone(broken(one_nest(at(0, 0)), [0]))
        self.assertEqual(broken(one_nest(at(0), at(0)), [1, 0]), (0, 1))
        self.assertIsNone(broken(one_nest(at(0), at(0)), [0, 1]))
        self.assertIsNone(broken(one_nest(at(0, 5), at(1, 5)), [1, 0]))

    def test_three_nests_and_tables(self):
        self.assertIsNone(broken(TRIPLE, [1, 0, 4, 2, 3, 6, 5, 7]))
        self.assertEqual(broken(TRIPLE, [1, 0, 4, 2, 3, 6, 7, 5]), (5, 7))
        self.assertEqual(broken(TRIPLE, [1, 4, 6, 0, 2, 3, 5, 7]), (0, 6))
        for i, j in TRIPLE_TOUCHING:
            # All others as they were, the one step straight behind the other.
            order = [step for step in range(8) if step != i]
            order.insert(order.index(j) + 1, i)
            first = min(pair for pair in TRIPLE_TOUCHING if pair[0] == i)
            self.assertEqual(broken(TRIPLE, order), first)

    def test_the_other_way_round(self):
        self.assertEqual(broken(TRIPLE, list(range(7, -1, -1))), (0, 2))
        for program in some_programs():
            told = pairs(program)
            self.assertEqual(broken(program, plain(program)[::-1]), told[0][:2] if told else None)

    def test_sixty_steps(self):
        alone = program_of((1,), (plain_nest(SIXTY_COUNTS),))
        order = list(range(60))
        self.assertIsNone(broken(alone, order))
        order[57:59] = [58, 57]
        self.assertEqual(broken(alone, order), (57, 58))

    def test_orders_of_plans(self):
        # a[i] from a[i - 1]: backward it doesn't keep.
        program = one_nest((0, ((0, 1),), (0, 0), ((1, 0, ((-1, 1),)),)), loops=(((0,), (4,)),))
        plan = plain_plan(program)
        self.assertIsNone(broken(program, order_of(program, plan)))
        self.assertEqual(broken(program, order_of(program, backward(program, plan, 0, 1))), (0, 1))
        # a[i + 3 j] alone: loops exchanged keep.
        program = one_nest((0, ((0, 1, 3),), (0, 0, 0), ()), loops=(((0,), (3,)), ((0, 0), (4, 0))))
        self.assertIsNone(broken(program, order_of(program, exchanged(program, plain_plan(program), 0, 1, 2))))

    def test_each_order_of_small_programs(self):
        for program in SMALL:
            for order in itertools.permutations(plain(program)):
                wrong = [(i, j) for i, j in itertools.combinations(plain(program), 2)
                         if touches(program, i, j) and order.index(i) > order.index(j)]
                self.assertEqual(broken(program, list(order)), wrong[0] if wrong else None)

    def test_lists_that_are_no_orders(self):
        for order in NO_ORDERS + NO_LISTS:
            self.refused(NoOrder, broken, PROGRAM, order)
        for order in ([0], [-1], [0, 1]):
            self.refused(NoOrder, broken, EMPTY, order)


class Led(Refusing):
    def test_exchanges_of_orders_that_keep(self):
        self.assertEqual(led(PROGRAM, PLAIN), [])
        # Here there is but one way.
        self.assertEqual(led(PROGRAM, [0, 1, 6, 2, 3, 4, 5, 7, 8]), [5, 4, 3, 2])
        self.assertEqual(led(PROGRAM, [0, 1, 2, 3, 7, 4, 5, 6, 8]), [6, 5, 4])
        self.assertEqual(led(PROGRAM, [0, 1, 2, 3, 4, 5, 6, 8, 7]), [7])

    def test_they_lead_to_the_order_and_are_as_few_as_can_be(self):
        for order, number in zip(KEEPING, (0, 4, 3, 6, 3, 3)):
            told = led(PROGRAM, order)
            self.assertIsInstance(told, list)
            self.assertEqual(len(told), number)
            self.assertEqual(after(PROGRAM, told), order)
            self.assertIs(leads(PROGRAM, told, order), True)

    def test_orders_that_do_not_keep(self):
        for order, pair in BREAKING:
            self.assertIsNone(led(PROGRAM, order))

    def test_no_steps_one_step_and_two(self):
        self.assertEqual(led(EMPTY, []), [])
        self.assertEqual(led(one_nest(at(0, 0)), [0]), [])
        self.assertEqual(led(one_nest(at(0), at(1)), [1, 0]), [0])
        self.assertIsNone(led(one_nest(at(0), at(0)), [1, 0]))

    def test_three_nests_and_tables(self):
        for order in ([1, 0, 4, 2, 3, 6, 5, 7], [0, 2, 3, 1, 4, 5, 6, 7], [1, 4, 0, 2, 3, 5, 6, 7]):
            told = led(TRIPLE, order)
            self.assertEqual(after(TRIPLE, told), order)
            self.assertEqual(len(told), number_turned_about(order))
        self.assertIsNone(led(TRIPLE, [1, 0, 4, 2, 3, 6, 7, 5]))

    def test_sixty_steps_the_other_way_round(self):
        program = one_nest((0, ((0, 12, 3, 1),), (0, 0, 0, 0), ()), loops=SIXTY_COUNTS)
        order = list(range(59, -1, -1))
        told = led(program, order)
        self.assertEqual(len(told), 60 * 59 // 2)
        self.assertIs(leads(program, told, order), True)
        self.assertIs(leads(program, told[:-1], order), False)
        self.assertEqual(after(program, told), order)

    def test_each_order_of_small_programs_by_all_ways(self):
        for program in SMALL:
            few = {tuple(plain(program)): 0}
            ways = [[]]
            while ways:
                longer = []
                for way in ways:
                    for p in range(len(plain(program)) - 1):
                        order = after(program, way + [p])
                        if order is not None and tuple(order) not in few:
                            few[tuple(order)] = len(way) + 1
                            longer.append(way + [p])
                ways = longer
            for order in itertools.permutations(plain(program)):
                told = led(program, list(order))
                if order in few:
                    self.assertEqual(len(told), few[order])
                    self.assertEqual(after(program, told), list(order))
                    self.assertIs(leads(program, told, list(order)), True)
                else:
                    self.assertIsNone(told)

    def test_lists_that_are_no_orders(self):
        for order in NO_ORDERS + NO_LISTS:
            self.refused(NoOrder, led, PROGRAM, order)
        for order in ([0], [-1], [0, 1]):
            self.refused(NoOrder, led, EMPTY, order)


class Leads(Refusing):
    def test_exchanges_that_lead_to_an_order(self):
        self.assertIs(leads(PROGRAM, [5, 4, 3, 2], [0, 1, 6, 2, 3, 4, 5, 7, 8]), True)
        self.assertIs(leads(PROGRAM, [7], [0, 1, 2, 3, 4, 5, 6, 8, 7]), True)
        self.assertIs(leads(PROGRAM, [6, 7, 6], [0, 1, 2, 3, 4, 5, 8, 7, 6]), True)
        self.assertIs(leads(PROGRAM, [7, 6, 7], [0, 1, 2, 3, 4, 5, 8, 7, 6]), True)

    def test_more_exchanges_than_are_needed(self):
        self.assertIs(leads(PROGRAM, [6, 6], PLAIN), True)
        self.assertIs(leads(PROGRAM, [7, 7, 7], [0, 1, 2, 3, 4, 5, 6, 8, 7]), True)
        self.assertIs(leads(PROGRAM, [7] * 300, PLAIN), True)

    def test_none_at_all(self):
        self.assertIs(leads(PROGRAM, [], PLAIN), True)
        self.assertIs(leads(PROGRAM, [], [0, 1, 2, 3, 4, 5, 6, 8, 7]), False)
        self.assertIs(leads(EMPTY, [], []), True)

    def test_exchanges_that_come_to_another_order(self):
        self.assertIs(leads(PROGRAM, [5, 4, 3], [0, 1, 6, 2, 3, 4, 5, 7, 8]), False)
        self.assertIs(leads(PROGRAM, [7], PLAIN), False)
        self.assertIs(leads(PROGRAM, [7, 6], [0, 1, 2, 3, 4, 5, 8, 7, 6]), False)
        self.assertIs(leads(PROGRAM, [7], [0, 1, 2, 3, 4, 5, 7, 6, 8]), False)

    def test_exchanges_of_touching_steps(self):
        self.assertIs(leads(PROGRAM, [0], [1, 0, 2, 3, 4, 5, 6, 7, 8]), False)
        # They come to the order, but by way of one that doesn't keep.
        self.assertIs(leads(PROGRAM, [0, 0], PLAIN), False)
        self.assertIs(leads(PROGRAM, [7, 4, 4], [0, 1, 2, 3, 4, 5, 6, 8, 7]), False)
        # 8 goes past 7 and 6, but not past 5.
        self.assertIs(leads(PROGRAM, [7, 6, 5], [0, 1, 2, 3, 4, 8, 5, 6, 7]), False)

    def test_touching_steps_exchanged_the_other_way_round(self):
        # Both set a[2]: they may not be exchanged, and not put back either.
        program = one_nest(at(2), at(2), at(3))
        self.assertIs(leads(program, [0, 0, 1], [0, 2, 1]), False)
        self.assertIs(leads(program, [1, 0], [2, 0, 1]), True)
        self.assertIs(leads(program, [1, 0, 1], [2, 1, 0]), False)

    def test_what_is_no_place(self):
        for p in (-1, 8, 9, 99, -2, -8, -9, 10 ** 59, -10 ** 59):
            for exchanges in ([p], [p, p], [7, 7, p], [p, 7, 7]):
                self.assertIs(leads(PROGRAM, exchanges, PLAIN), False, exchanges)
        # The last place and the first one, were -1 a place.
        self.assertIs(leads(PROGRAM, [-1], [8, 1, 2, 3, 4, 5, 6, 7, 0]), False)
        self.assertIs(leads(PROGRAM, [-2], [0, 1, 2, 3, 4, 5, 6, 8, 7]), False)

    def test_few_steps_have_few_places(self):
        for p in (-1, 0, 1):
            self.assertIs(leads(EMPTY, [p], []), False)
            self.assertIs(leads(one_nest(at(0)), [p], [0]), False)
        two = one_nest(at(0), at(1))
        self.assertIs(leads(two, [0], [1, 0]), True)
        self.assertIs(leads(two, [1], [1, 0]), False)
        self.assertIs(leads(two, [-1], [1, 0]), False)

    def test_all_short_exchanges_of_small_programs(self):
        for program in SMALL[:6]:
            orders = [list(order) for order in itertools.permutations(plain(program))]
            for length in range(4):
                for exchanges in itertools.product(range(-1, 4), repeat=length):
                    wanted = after(program, exchanges)
                    told = [order for order in orders if leads(program, list(exchanges), order)]
                    self.assertEqual(told, [] if wanted is None else [wanted])

    def test_lists_that_are_no_orders(self):
        for order in NO_ORDERS + NO_LISTS:
            for exchanges in ([], [7], [0], [-1], [99]):
                self.refused(NoOrder, leads, PROGRAM, exchanges, order)
        for order in ([0], [-1]):
            self.refused(NoOrder, leads, EMPTY, [], order)


class NothingKept(Refusing):
    def test_what_is_handed_in_stays_and_equal_things_are_told_again(self):
        program = copy.deepcopy(PROGRAM)
        for listed in KEEPING + [order for order, pair in BREAKING]:
            order, exchanges = list(listed), [6, 6, 7]
            one = [broken(program, order), led(program, order), leads(program, exchanges, order)]
            self.assertEqual((program, order, exchanges), (PROGRAM, listed, [6, 6, 7]))
            self.assertEqual([broken(program, order), led(program, order), leads(program, exchanges, order)], one)
            self.assertEqual([broken(PROGRAM, listed), led(PROGRAM, listed), leads(PROGRAM, [6, 6, 7], listed)], one)

    def test_what_is_refused_stays_too(self):
        order = PLAIN + [4]
        for tell in (broken, led):
            self.refused(NoOrder, tell, PROGRAM, order)
        exchanges = [7]
        self.refused(NoOrder, leads, PROGRAM, exchanges, order)
        self.assertEqual((order, exchanges), (PLAIN + [4], [7]))

    def test_changing_what_is_told_changes_no_later_answer(self):
        for order in (KEEPING[3], PLAIN):
            told = led(PROGRAM, order)
            kept = list(told)
            told.append(99)
            told.reverse()
            self.assertEqual(led(PROGRAM, order), kept)
            self.assertIsNot(led(PROGRAM, order), led(PROGRAM, order))

    def test_changing_the_order_changes_nothing_told(self):
        order = list(KEEPING[1])
        told = led(PROGRAM, order)
        order.clear()
        self.assertEqual(told, [5, 4, 3, 2])
        self.assertEqual(led(PROGRAM, KEEPING[1]), [5, 4, 3, 2])


if __name__ == "__main__":
    unittest.main()
