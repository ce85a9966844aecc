import copy
import itertools
import math
import unittest

from nestturn.forms import counts_of
from nestturn.meets import is_reason, meeting
from samples import NO_COUNTS, ONE_LOOP, SIXTY_COUNTS

THREE = (((0,), (3,)),)
TWO = (((0,), (2,)),)
BACK = (((-4,), (-1,)),)
SQUARE = (((0,), (3,)), ((0, 0), (3, 0)))
TRIANGLE = (((0,), (3,)), ((0, 1), (3, 0)))
BIG = 10 ** 59
GREATEST = int("9" * 60)


class Looking(unittest.TestCase):
    def apart(self, asked, reason, others=()):
        """Told apart by the reason; the others are so, too."""
        self.assertEqual(meeting(*asked), ("apart", reason))
        for each in (reason, ("tried",)) + others:
            self.assertIs(is_reason(*asked, each), True, each)

    def none_so(self, asked, reasons):
        for each in reasons:
            self.assertIs(is_reason(*asked, each), False, each)


class Meet(Looking):
    def test_one_form(self):
        # i in 0, 1, 2 and j + 2 in 2, 3, 4.
        self.assertEqual(meeting(THREE, ((0, 1),), THREE, ((2, 1),)), ("meet", (2,), (0,)))
        self.assertEqual(meeting(THREE, ((2, 1),), THREE, ((0, 1),)), ("meet", (0,), (2,)))

    def test_two_forms(self):
        # (i, 2 - i) and (1 + j, 1 - j): i = 1 + j.
        self.assertEqual(meeting(THREE, ((0, 1), (2, -1)), THREE, ((1, 1), (1, -1))), ("meet", (1,), (0,)))
        # (i, j) and (2 - j, i + 1) of the other: i = 0 needs its j = 2.
        self.assertEqual(
            meeting(SQUARE, ((0, 1, 0), (0, 0, 1)), SQUARE, ((2, 0, -1), (1, 1, 0))), ("meet", (0, 1), (0, 2)))

    def test_the_first_counts_of_the_one_and_the_first_of_the_other(self):
        # i + j with j + i: 2 is met at (0, 2) first; the other's (0, 2), (1, 1), (2, 0) come to 2.
        self.assertEqual(
            meeting(SQUARE, ((2, 1, 0),), SQUARE, ((0, 1, 1),)), ("meet", (0, 0), (0, 2)))
        # -i - 3 from -3 down to -5: the other's -7, -5, .. has -5 first.
        self.assertEqual(meeting(THREE, ((-3, -1),), SQUARE, ((-7, 2, 0),)), ("meet", (0,), (2, 0)))
        self.assertEqual(meeting(THREE, ((-4, -1),), SQUARE, ((-7, 2, 0),)), ("meet", (1,), (1, 0)))

    def test_forms_of_numbers_alone(self):
        self.assertEqual(meeting(THREE, ((5, 0),), SQUARE, ((5, 0, 0),)), ("meet", (0,), (0, 0)))

    def test_one_place_and_itself(self):
        self.assertEqual(meeting(BACK, ((7, 3),), BACK, ((7, 3),)), ("meet", (-4,), (-4,)))

    def test_counts_below_0(self):
        # 2i over -4, -3, -2 and -6 alone.
        self.assertEqual(meeting(BACK, ((0, 2),), ONE_LOOP, ((-6, 1),)), ("meet", (-3,), (0,)))

    def test_where_they_meet_no_reason_is_so(self):
        asked = (THREE, ((0, 2),), THREE, ((2, 4),))
        self.assertEqual(meeting(*asked), ("meet", (1,), (0,)))
        self.none_so(asked, [
            ("tried",), ("empty", 0), ("empty", 1), ("divisor", 0, 2), ("divisor", 0, 0), ("divisor", 0, 1),
            ("bounds", 0, -10, 2), ("bounds", 0, 1, 2)])

    def test_sixty_counts_of_both(self):
        place = ((0, 12, 3, 1),)
        self.assertEqual(meeting(SIXTY_COUNTS, place, SIXTY_COUNTS, ((59, 0, 0, 0),)), ("meet", (4, 3, 2), (0, 0, 0)))
        self.assertEqual(meeting(SIXTY_COUNTS, ((59, 0, 0, 0),), SIXTY_COUNTS, place), ("meet", (0, 0, 0), (4, 3, 2)))

    def test_great_numbers(self):
        self.assertEqual(
            meeting(THREE, ((-GREATEST, GREATEST),), THREE, ((GREATEST, -GREATEST),)), ("meet", (0,), (2,)))

    def test_kinds(self):
        told = meeting(THREE, ((0, 1),), THREE, ((0, 1),))
        self.assertEqual([each.__class__ for each in told], [str, tuple, tuple])


class Empty(Looking):
    def test_the_ones_loops(self):
        asked = (NO_COUNTS, ((0, 1),), THREE, ((0, 1),))
        self.apart(asked, ("empty", 0))
        self.none_so(asked, [("empty", 1)])

    def test_the_others_loops(self):
        asked = (THREE, ((0, 1),), NO_COUNTS, ((0, 1),))
        self.apart(asked, ("empty", 1))
        self.none_so(asked, [("empty", 0)])

    def test_both(self):
        self.apart((NO_COUNTS, ((0, 1),), NO_COUNTS, ((0, 1),)), ("empty", 0), (("empty", 1),))

    def test_within_an_outer_loop_with_counts(self):
        self.apart((((((0,), (3,)), ((2, 0), (0, 1)))), ((0, 1, 0),), THREE, ((0, 1),)), ("empty", 0))

    def test_ahead_of_a_divisor_that_is_so_all_the_same(self):
        for g, form, other in ((2, (0, 2), (1, 2)), (0, (3, 0), (4, 0))):
            self.apart((NO_COUNTS, (form,), THREE, (other,)), ("empty", 0), (("divisor", 0, g),))
            self.apart((THREE, (form,), NO_COUNTS, (other,)), ("empty", 1), (("divisor", 0, g),))

    def test_no_bounds_without_counts(self):
        self.none_so((NO_COUNTS, ((50, 1),), THREE, ((0, 1),)), [("bounds", 0, low, high) for low in range(46, 52)
                                                                 for high in range(46, 54)])
        self.none_so((THREE, ((50, 0),), NO_COUNTS, ((0, 0),)), [("bounds", 0, 50, 50)])
        self.none_so((NO_COUNTS, ((50, 0),), NO_COUNTS, ((0, 0),)), [("bounds", 0, 50, 50)])

    def test_other_numbers_behind_empty(self):
        asked = (NO_COUNTS, ((0, 1),), NO_COUNTS, ((0, 1),))
        self.none_so(asked, [("empty", number) for number in (-2, -1, 2, 3, GREATEST, -GREATEST)])

    def test_loops_with_counts(self):
        self.none_so((THREE, ((0, 2),), THREE, ((1, 2),)), [("empty", 0), ("empty", 1)])


class Divisor(Looking):
    def test_above_1(self):
        asked = (THREE, ((0, 2),), THREE, ((1, 2),))
        self.apart(asked, ("divisor", 0, 2))
        self.none_so(asked, [("divisor", 0, g) for g in (-2, -1, 0, 1, 3, 4, GREATEST)])

    def test_the_greatest_that_divides_all(self):
        # 12, -18, 30 and 24: 6 divides all; 2 and 3 do too, but they are not the greatest.
        asked = (SQUARE, ((5, 12, -18),), SQUARE, ((1, 30, 24),))
        self.apart(asked, ("divisor", 0, 6))
        self.none_so(asked, [("divisor", 0, 2), ("divisor", 0, 3), ("divisor", 0, -6), ("divisor", 0, 12)])

    def test_numbers_of_both_forms_count(self):
        self.assertEqual(meeting(THREE, ((0, 4),), THREE, ((2, 6),))[0], "meet")
        self.apart((THREE, ((0, 4),), THREE, ((1, 6),)), ("divisor", 0, 2))

    def test_numbers_of_0_are_left_out(self):
        self.apart((SQUARE, ((1, 0, 3),), THREE, ((0, 0),)), ("divisor", 0, 3))
        self.apart((SQUARE, ((1, 0, -3),), THREE, ((0, 0),)), ("divisor", 0, 3))

    def test_0_where_all_are_0(self):
        asked = (THREE, ((3, 0),), SQUARE, ((4, 0, 0),))
        self.apart(asked, ("divisor", 0, 0), (("bounds", 0, -1, -1),))
        self.none_so(asked, [("divisor", 0, 1), ("divisor", 0, -1), ("divisor", 1, 0)])

    def test_0_is_no_reason_where_the_first_numbers_are_alike(self):
        self.none_so((THREE, ((3, 0),), THREE, ((3, 0),)), [("divisor", 0, 0)])

    def test_1_is_no_reason(self):
        # 0, 2 and 1, 4 never meet; 2 and 3 have the divisor 1.
        asked = (TWO, ((0, 2),), TWO, ((1, 3),))
        self.apart(asked, ("tried",))
        self.none_so(asked, [("divisor", 0, 1), ("divisor", 0, 0), ("divisor", 0, 2), ("divisor", 0, 3)])

    def test_a_difference_that_is_times_g(self):
        # 2i and 10 + 2j: far apart, but by an even number.
        asked = (THREE, ((0, 2),), THREE, ((10, 2),))
        self.apart(asked, ("bounds", 0, -14, -6))
        self.none_so(asked, [("divisor", 0, 2)])

    def test_ahead_of_bounds_of_the_same_k(self):
        self.apart((THREE, ((11, 2),), THREE, ((0, 2),)), ("divisor", 0, 2), (("bounds", 0, 7, 15),))

    def test_at_the_second_number(self):
        asked = (THREE, ((0, 1), (0, 3)), THREE, ((0, 1), (-1, 3)))
        self.apart(asked, ("divisor", 1, 3))
        self.none_so(asked, [("divisor", 0, 3), ("divisor", 0, 1), ("divisor", -1, 3), ("divisor", 2, 3)])

    def test_of_the_first_number_ahead_of_all_of_the_second(self):
        asked = (THREE, ((0, 2), (9, 3)), THREE, ((1, 2), (-1, 3)))
        self.apart(asked, ("divisor", 0, 2), (("divisor", 1, 3), ("bounds", 1, 4, 16)))

    def test_a_k_that_is_not_there(self):
        asked = (THREE, ((0, 2),), THREE, ((1, 2),))
        self.none_so(asked, [("divisor", k, 2) for k in (-2, -1, 1, 2, GREATEST, -GREATEST)])
        asked = (THREE, ((0, 2),) * 2, THREE, ((1, 2),) * 2)
        self.apart(asked, ("divisor", 0, 2), (("divisor", 1, 2),))
        self.none_so(asked, [("divisor", k, 2) for k in (-2, -1, 2, 3)])

    def test_great_numbers(self):
        self.apart((TWO, ((1, BIG),), TWO, ((0, -BIG),)), ("divisor", 0, BIG), (("bounds", 0, 1, 2 * BIG + 1),))
        self.apart((TWO, ((0, 6 * BIG),), TWO, ((3, 10 * BIG),)), ("divisor", 0, 2 * BIG))
        self.apart((TWO, ((GREATEST, 0),), TWO, ((-GREATEST, 0),)), ("divisor", 0, 0))


class Bounds(Looking):
    def test_both_above_0(self):
        # 10 + i - j, i and j from 0 to 2.
        asked = (THREE, ((10, 1),), THREE, ((0, 1),))
        self.apart(asked, ("bounds", 0, 8, 12))
        self.none_so(asked, [
            ("bounds", 0, 8, 11), ("bounds", 0, 7, 12), ("bounds", 0, 12, 8), ("bounds", 0, 9, 9),
            ("bounds", 0, -8, -12), ("bounds", 0, -12, -8)])

    def test_both_below_0(self):
        asked = (THREE, ((0, 1),), THREE, ((10, 1),))
        self.apart(asked, ("bounds", 0, -12, -8))
        self.none_so(asked, [("bounds", 0, 8, 12), ("bounds", 0, -8, -12)])

    def test_numbers_below_0(self):
        # 1 - i over 0, 1, 2 and 5 - 2j over -4, -3, -2: -4 - i + 2j from -4 - 2 - 8 to -4 - 4.
        self.apart((THREE, ((1, -1),), BACK, ((5, -2),)), ("bounds", 0, -14, -8))
        self.apart((BACK, ((5, -2),), THREE, ((1, -1),)), ("bounds", 0, 8, 14))

    def test_just_above_and_just_below_0(self):
        self.apart((THREE, ((3, 1),), THREE, ((0, 1),)), ("bounds", 0, 1, 5))
        self.apart((THREE, ((0, 1),), THREE, ((3, 1),)), ("bounds", 0, -5, -1))

    def test_a_bound_of_0_is_no_reason(self):
        for one, other, low, high in ((2, 0, 0, 4), (0, 2, -4, 0)):
            asked = (THREE, ((one, 1),), THREE, ((other, 1),))
            self.assertEqual(meeting(*asked)[0], "meet")
            self.none_so(asked, [("bounds", 0, low, high)])

    def test_one_below_and_one_above_is_no_reason(self):
        asked = (TWO, ((0, 2),), TWO, ((1, 3),))
        self.none_so(asked, [("bounds", 0, -4, 1)])

    def test_each_count_goes_by_itself(self):
        # i - j over a triangle with i at most j never comes to 1, but by itself each goes from 0 to 2.
        asked = (TRIANGLE, ((0, 1, -1),), ONE_LOOP, ((1, 0),))
        self.apart(asked, ("tried",))
        self.none_so(asked, [("bounds", 0, -3, -1), ("bounds", 0, -3, 1)])

    def test_least_and_greatest_among_all_counts(self):
        # The outer count goes from 0 to 3, but with a count within at 3 alone.
        loops = (((0,), (4,)), ((2, 0), (0, 1)))
        self.assertEqual(counts_of(loops), [(3, 2)])
        self.apart((loops, ((0, 1, 0),), ONE_LOOP, ((2, 1),)), ("bounds", 0, 1, 1))
        # The inner count is least and greatest at unlike outer ones.
        self.apart((TRIANGLE, ((0, 5, 1),), ONE_LOOP, ((13, 1),)), ("bounds", 0, -13, -1))
        self.apart((TRIANGLE, ((0, 0, 1),), ONE_LOOP, ((-1, 5),)), ("bounds", 0, 1, 3))

    def test_all_shares_of_both(self):
        # 40 + 2i - 3j - (k - 4l), all from 0 to 2: from 40 - 6 - 2 to 40 + 4 + 8.
        self.apart((SQUARE, ((40, 2, -3),), SQUARE, ((0, 1, -4),)), ("bounds", 0, 32, 52))

    def test_of_the_first_number_ahead_of_a_divisor_of_the_second(self):
        self.apart((THREE, ((10, 1), (0, 2)), THREE, ((0, 1), (1, 2))), ("bounds", 0, 8, 12), (("divisor", 1, 2),))

    def test_at_the_second_number(self):
        asked = (THREE, ((0, 1), (10, 1)), THREE, ((0, 1), (0, 1)))
        self.apart(asked, ("bounds", 1, 8, 12))
        self.none_so(asked, [("bounds", 0, 8, 12), ("bounds", 0, -2, 2), ("bounds", -1, 8, 12), ("bounds", 2, 8, 12)])

    def test_a_k_that_is_not_there(self):
        asked = (THREE, ((10, 1),), THREE, ((0, 1),))
        self.none_so(asked, [("bounds", k, 8, 12) for k in (-2, -1, 1, 2, GREATEST, -GREATEST)])

    def test_great_numbers(self):
        asked = (TWO, ((GREATEST, 1),), TWO, ((-GREATEST, 1),))
        self.apart(asked, ("bounds", 0, 2 * GREATEST - 1, 2 * GREATEST + 1))
        self.none_so(asked, [("bounds", 0, 2 * GREATEST, 2 * GREATEST), ("bounds", 0, GREATEST, GREATEST)])
        # 1 + BIG i + (BIG - 1) j, i and j 0 and 1.
        self.apart((TWO, ((1, BIG),), TWO, ((0, 1 - BIG),)), ("bounds", 0, 1, 2 * BIG))


class Tried(Looking):
    def test_each_number_meets_but_not_both_at_once(self):
        # (i, i) and (j, j + 1).
        asked = (THREE, ((0, 1), (0, 1)), THREE, ((0, 1), (1, 1)))
        self.apart(asked, ("tried",))
        self.none_so(asked, [("empty", 0), ("divisor", 0, 1), ("divisor", 1, 1), ("bounds", 1, -3, 1)])

    def test_behind_all_others(self):
        self.assertEqual(meeting(THREE, ((0, 1), (0, 2)), THREE, ((0, 1), (1, 2))), ("apart", ("divisor", 1, 2)))

    def test_just_where_they_do_not_meet(self):
        for first in range(-8, 9):
            asked = (TWO, ((0, 3),), TWO, ((first, 5),))
            self.assertIs(is_reason(*asked, ("tried",)), first not in (0, 3, -5, -2), first)


class NoReason(Looking):
    def test_truths_are_no_numbers(self):
        self.none_so((NO_COUNTS, ((0, 1),), NO_COUNTS, ((0, 1),)), [("empty", False), ("empty", True)])
        self.none_so((THREE, ((0, 2),), THREE, ((1, 2),)), [("divisor", False, 2)])

    def test_another_form(self):
        asked = (NO_COUNTS, ((0, 2),), NO_COUNTS, ((1, 2),))
        self.none_so(asked, [
            (), ("empty",), ("empty", 0, 0), ("tried", 0), ("divisor", 0), ("divisor", 2, 0), ("other",), ["tried"],
            "tried", None, ("meet", (0,), (0,)), (0, "empty")])


def by_the_words(loops, place, others, other):
    """What is told, and all reasons that are so in their order, by the words of the document."""
    here, there = counts_of(loops), counts_of(others)
    reasons = [("empty", which) for which in (0, 1) if not (here, there)[which]]
    for k in range(len(place)):
        one, two = place[k], other[k]
        g = math.gcd(*one[1:], *two[1:])
        difference = one[0] - two[0]
        if g != 1 and difference not in ([0] if g == 0 else range(-g * 1000, g * 1000 + 1, g)):
            reasons.append(("divisor", k, g))
        if here and there:
            ranges = []
            for sign, form, counts in ((1, one, here), (-1, two, there)):
                for at in range(1, len(form)):
                    listed = [each[at - 1] for each in counts]
                    shares = [sign * form[at] * count for count in range(min(listed), max(listed) + 1)]
                    ranges.append((min(shares), max(shares)))
            low = difference + sum(each[0] for each in ranges)
            high = difference + sum(each[1] for each in ranges)
            if (low > 0 and high > 0) or (low < 0 and high < 0):
                reasons.append(("bounds", k, low, high))
    for one, two in itertools.product(here, there):
        at_one = [f[0] + sum(map(int.__mul__, f[1:], one)) for f in place]
        at_two = [f[0] + sum(map(int.__mul__, f[1:], two)) for f in other]
        if at_one == at_two:
            return ("meet", one, two), reasons
    reasons.append(("tried",))
    return ("apart", reasons[0]), reasons


class ByTheWords(Looking):
    def look_at(self, asked):
        told, reasons = by_the_words(*asked)
        self.assertEqual(meeting(*asked), told, asked)
        if told[0] == "meet":
            self.assertEqual(reasons, [], asked)
        for reason in [("empty", 0), ("empty", 1), ("tried",)] + reasons:
            self.assertIs(is_reason(*asked, reason), reason in reasons, (asked, reason))
        for k, number in itertools.product(range(-1, 3), range(-1, 7)):
            reason = ("divisor", k, number)
            self.assertIs(is_reason(*asked, reason), reason in reasons, (asked, reason))
        return told

    def test_a_family_with_one_form(self):
        kinds = set()
        for loops, others in itertools.product((NO_COUNTS, TWO, BACK), (NO_COUNTS, TWO, THREE)):
            for a, b, c in itertools.product((-7, 0, 3), (-2, 0, 4), (-6, 0, 3)):
                told = self.look_at((loops, ((a, b),), others, ((1, c),)))
                kinds.add(told[1][0] if told[0] == "apart" else "meet")
        self.assertEqual(kinds, {"meet", "empty", "divisor", "bounds", "tried"})

    def test_a_family_with_two_forms(self):
        kinds = set()
        for a, b, c in itertools.product((-7, 0, 1), (-2, 0, 3), (-4, 0, 1)):
            place = ((0, b, 1), (a, c, 2))
            for other in (((0, 1), (1, 1)), ((2, 2), (0, 4)), ((2, 2), (a, 0))):
                for loops in (TRIANGLE, SQUARE):
                    told = self.look_at((loops, place, BACK, other))
                    kinds.add(told[1][0] if told[0] == "apart" else "meet")
                    self.look_at((BACK, other, loops, place))
        self.assertEqual(kinds, {"meet", "divisor", "bounds", "tried"})


class NothingKept(unittest.TestCase):
    def test_what_is_handed_in_stays_and_equal_things_are_told_again(self):
        for place, other in ((((0, 2),), ((1, 2),)), (((0, 1),), ((1, 1),)), (((9, 1),), ((0, 1),))):
            asked = (THREE, place, BACK, other)
            kept = copy.deepcopy(asked)
            one = meeting(*asked)
            self.assertEqual(meeting(*kept), one)
            reason = ("tried",)
            self.assertEqual(is_reason(*asked, reason), is_reason(*kept, reason))
            self.assertEqual((asked, reason), (kept, ("tried",)))


if __name__ == "__main__":
    unittest.main()
