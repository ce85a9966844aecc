import itertools
import unittest

from nestturn.forms import comes_to, counts_of, is_form, is_loops, is_whole
from samples import NOT_TUPLE, NOT_WHOLE, parts_of, with_part


class Whole(unittest.TestCase):
    def test_ints_are_whole_numbers(self):
        for number in (0, 1, -1, 99, 10 ** 60, -10 ** 60):
            self.assertIs(is_whole(number), True, number)

    def test_truths_and_all_else_are_none(self):
        for thing in NOT_WHOLE:
            self.assertIs(is_whole(thing), False, thing)


class Forms(unittest.TestCase):
    def test_a_form_has_one_number_more_than_counts(self):
        for d in range(4):
            for length in range(6):
                self.assertIs(is_form((7,) * length, d), length == d + 1, (d, length))

    def test_its_numbers_are_of_any_size(self):
        self.assertIs(is_form((10 ** 59, -10 ** 59, 0), 2), True)

    def test_each_number_is_to_be_whole(self):
        for d in range(4):
            for at in range(d + 1):
                for thing in NOT_WHOLE:
                    form = with_part((3,) * (d + 1), (at,), thing)
                    self.assertIs(is_form(form, d), False, (form, d))

    def test_what_is_no_tuple_is_no_form(self):
        for d in range(4):
            for thing in NOT_TUPLE + [[1] * (d + 1), "1" * (d + 1)]:
                self.assertIs(is_form(thing, d), False, (thing, d))


class ComesTo(unittest.TestCase):
    def test_the_first_number_stands_alone_without_counts(self):
        self.assertEqual(comes_to((-4,), ()), -4)

    def test_each_further_number_goes_times_its_count(self):
        self.assertEqual(comes_to((5, 2), (3,)), 11)
        self.assertEqual(comes_to((1, 10, 100), (2, 3)), 321)
        self.assertEqual(comes_to((7, -1, 0, 4), (2, 9, -3)), -7)

    def test_counts_of_zero_leave_the_first_number(self):
        self.assertEqual(comes_to((8, 3, 3, 3), (0, 0, 0)), 8)

    def test_numbers_have_as_many_figures_as_they_need(self):
        self.assertEqual(comes_to((1, 10 ** 59), (10 ** 59,)), 10 ** 118 + 1)


GOOD_LOOPS = (((-9,), (9,)), ((-9, -2), (9, 2)), ((0, 2, -2), (1, -1, 1)))


class Loops(unittest.TestCase):
    def test_one_to_three_loops(self):
        for number in (1, 2, 3):
            self.assertIs(is_loops(GOOD_LOOPS[:number]), True, number)

    def test_no_loops_and_four_are_none(self):
        self.assertIs(is_loops(()), False)
        self.assertIs(is_loops(GOOD_LOOPS + (((0, 0, 0, 0), (1, 0, 0, 0)),)), False)

    def test_low_may_be_no_less_than_high(self):
        self.assertIs(is_loops((((2,), (2,)),)), True)
        self.assertIs(is_loops((((9,), (-9,)),)), True)

    def test_first_numbers_go_from_minus_9_to_9(self):
        for path, part in parts_of(GOOD_LOOPS):
            if isinstance(part, int) and path[-1] == 0:
                for number in (-10, -9, 9, 10, 10 ** 60):
                    loops = with_part(GOOD_LOOPS, path, number)
                    self.assertIs(is_loops(loops), -9 <= number <= 9, loops)

    def test_other_numbers_go_from_minus_2_to_2(self):
        for path, part in parts_of(GOOD_LOOPS):
            if isinstance(part, int) and path[-1] > 0:
                for number in (-9, -3, -2, 2, 3, 9):
                    loops = with_part(GOOD_LOOPS, path, number)
                    self.assertIs(is_loops(loops), -2 <= number <= 2, loops)

    def test_every_part_is_to_be_of_its_kind(self):
        for path, part in parts_of(GOOD_LOOPS):
            wrong = NOT_WHOLE if isinstance(part, int) else NOT_TUPLE + [list(part)]
            for thing in wrong:
                loops = with_part(GOOD_LOOPS, path, thing)
                self.assertIs(is_loops(loops), False, loops)

    def test_loops_and_forms_too_long_or_too_short(self):
        for path, part in parts_of(GOOD_LOOPS):
            if isinstance(part, tuple) and path:
                for thing in (part[:-1], part + part[-1:], ()):
                    loops = with_part(GOOD_LOOPS, path, thing)
                    self.assertIs(is_loops(loops), False, loops)

    def test_a_form_goes_with_the_counts_ahead_alone(self):
        self.assertIs(is_loops((((0, 0), (3, 0)),)), False)
        self.assertIs(is_loops((((0,), (3,)), ((0,), (3,)))), False)


def counts_by_trying(loops):
    """The counts by the words of the document: all tuples in a box, tried one by one."""
    told = []
    for counts in itertools.product(range(-9, 10), repeat=len(loops)):
        within = True
        for k, (low, high) in enumerate(loops):
            bounds = []
            for form in (low, high):
                worth = form[0]
                for number, count in zip(form[1:], counts[:k]):
                    worth += number * count
                bounds.append(worth)
            within = within and bounds[0] <= counts[k] < bounds[1]
        if within:
            told.append(counts)
    return sorted(told)


class Counts(unittest.TestCase):
    def test_one_loop(self):
        self.assertEqual(counts_of((((-1,), (3,)),)), [(-1,), (0,), (1,), (2,)])
        self.assertEqual(counts_of((((-9,), (9,)),)), [(n,) for n in range(-9, 9)])

    def test_two_loops_the_first_count_slowest(self):
        self.assertEqual(
            counts_of((((0,), (2,)), ((5, 0), (8, 0)))),
            [(0, 5), (0, 6), (0, 7), (1, 5), (1, 6), (1, 7)])

    def test_bounds_that_go_with_the_count_ahead(self):
        self.assertEqual(
            counts_of((((0,), (3,)), ((0, 1), (3, 0)))),
            [(0, 0), (0, 1), (0, 2), (1, 1), (1, 2), (2, 2)])
        self.assertEqual(
            counts_of((((-1,), (2,)), ((0, -2), (1, 1)))),
            [(0, 0), (1, -2), (1, -1), (1, 0), (1, 1)])

    def test_three_loops_with_bounds_that_go_with_both_counts_ahead(self):
        self.assertEqual(
            counts_of((((0,), (2,)), ((0, 0), (2, 0)), ((0, 1, 0), (1, 1, 1)))),
            [(0, 0, 0), (0, 1, 0), (0, 1, 1), (1, 0, 1), (1, 1, 1), (1, 1, 2)])

    def test_no_counts_where_low_is_no_less_than_high(self):
        self.assertEqual(counts_of((((3,), (3,)),)), [])
        self.assertEqual(counts_of((((4,), (-4,)),)), [])
        self.assertEqual(counts_of((((0,), (3,)), ((1, 0), (1, 0)))), [])
        self.assertEqual(counts_of((((3,), (3,)), ((0, 0), (5, 0)))), [])
        self.assertEqual(counts_of((((0,), (3,)), ((0, 0), (2, 0)), ((2, 0, 0), (0, 0, 0)))), [])

    def test_no_counts_at_some_counts_ahead(self):
        self.assertEqual(
            counts_of((((0,), (4,)), ((2, 0), (0, 1)))),
            [(3, 2)])

    def test_all_loops_of_a_family_against_trying(self):
        for numbers in itertools.product((-2, 0, 1), repeat=4):
            a, b, c, d = numbers
            loops = (((-1,), (2,)), ((0, a), (1, b)), ((-1, c, 1), (1, 0, d)))
            self.assertEqual(counts_of(loops), counts_by_trying(loops), loops)

    def test_three_hundred_counts(self):
        told = counts_of((((0,), (5,)), ((0, 0), (6, 0)), ((-1, 0, 0), (9, 0, 0))))
        self.assertEqual(told, [(a, b, c) for a in range(5) for b in range(6) for c in range(-1, 9)])

    def test_numbers_somewhat_beyond_are_counted_all_the_same(self):
        self.assertEqual(counts_of((((20,), (22,)), ((0, 3), (61, 0)))), [(20, 60)])

    def test_the_list_is_the_askers_own(self):
        loops = (((0,), (2,)),)
        told = counts_of(loops)
        told.append((9,))
        told[0] = None
        self.assertEqual(counts_of(loops), [(0,), (1,)])
        self.assertEqual(loops, (((0,), (2,)),))
        self.assertIsInstance(told, list)


if __name__ == "__main__":
    unittest.main()
