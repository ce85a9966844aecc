import copy
import unittest

from nestturn.programs import cells_of, program_of, steps_of
from nestturn.touch import pairs, sources, span, spans, touches
from samples import NO_COUNTS, ONE_LOOP, PROGRAM, SIXTY_COUNTS, TWENTY_COUNTS, at, one_nest, plain_nest, some_programs

EMPTY = program_of((1,), (plain_nest(NO_COUNTS),))
THREE = (((0,), (3,)),)
A0, A1, A2 = (0, (0,)), (0, (1,)), (0, (2,))
B01, B10 = (1, (0, 1)), (1, (1, 0))
PAIRS = [
    (0, 1, [A0]), (0, 6, [A0]),
    (1, 2, [A1]), (1, 6, [A0, B01]), (1, 7, [A1, B01]),
    (2, 3, [A1]), (2, 7, [A1]),
    (3, 4, [A2]), (3, 7, [A1]), (3, 8, [A2, B10]),
    (4, 5, [A2]), (4, 8, [A2]),
    (5, 8, [A2]),
]
SOURCES = [[], [0, None], [], [2, None], [], [4, None], [0, 1], [2, 1], [4, 3]]


class Touches(unittest.TestCase):
    def test_each_two_steps(self):
        touching = {(i, j) for i, j, cells in PAIRS}
        for i in range(9):
            for j in range(9):
                self.assertIs(touches(PROGRAM, i, j), (min(i, j), max(i, j)) in touching, (i, j))

    def test_a_step_and_itself_never(self):
        program = one_nest(at(0, 0))
        self.assertIs(touches(program, 0, 0), False)

    def test_both_set(self):
        program = one_nest(at(3), at(3))
        self.assertIs(touches(program, 0, 1), True)
        self.assertIs(touches(program, 1, 0), True)

    def test_one_sets_and_the_other_reads(self):
        for program in (one_nest(at(3), at(4, 3)), one_nest(at(4, 3), at(3))):
            self.assertIs(touches(program, 0, 1), True)
            self.assertIs(touches(program, 1, 0), True)

    def test_both_read_alone(self):
        program = one_nest(at(1, 5), at(2, 5))
        self.assertIs(touches(program, 0, 1), False)
        self.assertIs(touches(program, 1, 0), False)

    def test_a_read_with_factor_0_touches(self):
        program = one_nest(at(1), (0, ((2, 0),), (0, 0), ((0, 0, ((1, 0),)),)))
        self.assertIs(touches(program, 0, 1), True)

    def test_tables_with_the_same_place_are_apart(self):
        program = one_nest(at(1), (1, ((1, 0),), (0, 0), ()), widths=(1, 1))
        self.assertIs(touches(program, 0, 1), False)


class Pairs(unittest.TestCase):
    def test_by_i_then_j_with_the_cells(self):
        self.assertEqual(pairs(PROGRAM), PAIRS)

    def test_kinds(self):
        self.assertIsInstance(pairs(PROGRAM), list)
        for pair in pairs(PROGRAM):
            self.assertIsInstance(pair, tuple)
            self.assertIsInstance(pair[2], list)

    def test_no_steps_and_one_step(self):
        self.assertEqual(pairs(EMPTY), [])
        self.assertEqual(pairs(one_nest(at(0, 0))), [])

    def test_a_cell_that_both_set_and_read_is_told_once(self):
        self.assertEqual(pairs(one_nest(at(3, 3), at(3, 3))), [(0, 1, [(0, (3,))])])
        self.assertEqual(pairs(one_nest(at(3), at(3, 3))), [(0, 1, [(0, (3,))])])
        self.assertEqual(pairs(one_nest(at(3, 3, 3, 3), at(3))), [(0, 1, [(0, (3,))])])

    def test_two_cells_go_by_cells(self):
        self.assertEqual(pairs(one_nest(at(7, 2), at(2, 7))), [(0, 1, [(0, (2,)), (0, (7,))])])
        self.assertEqual(pairs(one_nest(at(2, 7), at(7, 2))), [(0, 1, [(0, (2,)), (0, (7,))])])
        self.assertEqual(pairs(one_nest(at(-2, 7), at(7, -2))), [(0, 1, [(0, (-2,)), (0, (7,))])])
        two = one_nest((1, ((0, 0),), (0, 0), ((1, 0, ((9, 0),)),)), (0, ((9, 0),), (0, 0), ((1, 1, ((0, 0),)),)), widths=(1, 1))
        self.assertEqual(pairs(two), [(0, 1, [(0, (9,)), (1, (0,))])])

    def test_each_two_of_sixty_steps(self):
        program = one_nest((0, ((0, 0, 0, 0),), (0, 0, 0, 0), ()), loops=SIXTY_COUNTS)
        self.assertEqual(pairs(program), [(i, j, [A0]) for i in range(60) for j in range(i + 1, 60)])

    def test_some_programs_by_the_words_of_the_document(self):
        for program in some_programs():
            cells = cells_of(program)
            wanted = []
            for i in range(len(cells)):
                for j in range(i + 1, len(cells)):
                    named = {cells[i][0], cells[j][0]} | set(cells[i][1]) | set(cells[j][1])
                    met = []
                    for cell in sorted(named):
                        sets = [cells[step][0] == cell for step in (i, j)]
                        uses = [cells[step][0] == cell or cell in cells[step][1] for step in (i, j)]
                        if (sets[0] and uses[1]) or (sets[1] and uses[0]):
                            met.append(cell)
                    self.assertIs(touches(program, i, j), met != [])
                    self.assertIs(touches(program, j, i), met != [])
                    if met:
                        wanted.append((i, j, met))
            self.assertEqual(pairs(program), wanted)


class Sources(unittest.TestCase):
    def test_the_last_step_ahead_that_set_the_cell(self):
        self.assertEqual(sources(PROGRAM), SOURCES)

    def test_no_steps_and_no_reads(self):
        self.assertEqual(sources(EMPTY), [])
        self.assertEqual(sources(one_nest(at(0), at(1))), [[], []])

    def test_a_step_is_no_source_of_itself(self):
        self.assertEqual(sources(one_nest(at(4, 4))), [[None]])
        self.assertEqual(sources(one_nest(at(4, 4), loops=THREE)), [[None], [0], [1]])

    def test_a_step_behind_is_no_source(self):
        self.assertEqual(sources(one_nest(at(1, 2), at(2))), [[None], []])

    def test_of_two_settings_the_later_one(self):
        self.assertEqual(sources(one_nest(at(1), at(1), at(2, 1), at(1))), [[], [], [1], []])

    def test_each_read_has_its_own_in_their_order(self):
        self.assertEqual(sources(one_nest(at(1), at(2), at(3, 2, 9, 1), at(4, 1, 1, 3))), [[], [], [1, None, 0], [0, 0, 2]])

    def test_from_nest_to_nest(self):
        program = program_of((1,), ((ONE_LOOP, (at(1),)), (NO_COUNTS, (at(1),)), (ONE_LOOP, (at(2, 1),))))
        self.assertEqual(sources(program), [[], [0]])

    def test_a_read_with_factor_0_has_a_source(self):
        program = one_nest(at(1), (0, ((2, 0),), (0, 0), ((0, 0, ((1, 0),)),)))
        self.assertEqual(sources(program), [[], [0]])


class Span(unittest.TestCase):
    def test_how_much_greater_the_counts_of_the_second_are(self):
        self.assertEqual(span(PROGRAM, 0, 4), (2,))
        self.assertEqual(span(PROGRAM, 4, 0), (-2,))
        self.assertEqual(span(PROGRAM, 0, 1), (0,))
        self.assertEqual(span(PROGRAM, 3, 3), (0,))
        self.assertEqual(span(PROGRAM, 6, 8), (1, 1))
        self.assertEqual(span(PROGRAM, 8, 7), (-1, 0))

    def test_unlike_nests(self):
        self.assertIsNone(span(PROGRAM, 5, 6))
        self.assertIsNone(span(PROGRAM, 6, 5))
        program = program_of((1,), (plain_nest(ONE_LOOP), plain_nest(ONE_LOOP)))
        self.assertIsNone(span(program, 0, 1))

    def test_steps_that_do_not_touch_have_a_span_too(self):
        program = one_nest((0, ((0, 1),), (0, 0), ()), loops=THREE)
        self.assertIs(touches(program, 0, 2), False)
        self.assertEqual(span(program, 0, 2), (2,))

    def test_three_counts(self):
        program = program_of((1,), (plain_nest(SIXTY_COUNTS),))
        # Steps 14 at (1, 0, 2) and 45 at (3, 3, 0).
        self.assertEqual(span(program, 14, 45), (2, 3, -2))
        self.assertEqual(span(program, 45, 14), (-2, -3, 2))


class Spans(unittest.TestCase):
    def test_each_once_rising(self):
        self.assertEqual(spans(PROGRAM), [(0,), (1,)])

    def test_no_steps_and_no_touching_steps(self):
        self.assertEqual(spans(EMPTY), [])
        self.assertEqual(spans(one_nest((0, ((0, 1),), (0, 0), ()), loops=THREE)), [])

    def test_pairs_of_unlike_nests_have_none(self):
        self.assertEqual(spans(program_of((1,), (plain_nest(ONE_LOOP), plain_nest(ONE_LOOP)))), [])

    def test_from_the_earlier_step_to_the_later_one(self):
        # a[i] from a[i + 1]: step i reads what step i + 1 sets.
        program = one_nest((0, ((0, 1),), (0, 0), ((1, 0, ((1, 1),)),)), loops=THREE)
        self.assertEqual(spans(program), [(1,)])
        # a[i] from a[i - 2].
        program = one_nest((0, ((0, 1),), (0, 0), ((1, 0, ((-2, 1),)),)), loops=THREE)
        self.assertEqual(spans(program), [(2,)])

    def test_numbers_below_0_go_ahead(self):
        # a[i + j] is set again at (i + 1, j - 1) and beyond: 5 times 4 counts.
        program = one_nest((0, ((0, 1, 1),), (0, 0, 0), ()), loops=TWENTY_COUNTS)
        self.assertEqual(spans(program), [(1, -1), (2, -2), (3, -3)])
        # a[i] alone: within one i, then none across.
        program = one_nest((0, ((0, 1, 0),), (0, 0, 0), ()), loops=TWENTY_COUNTS)
        self.assertEqual(spans(program), [(0, 1), (0, 2), (0, 3)])

    def test_spans_of_nests_with_unlike_numbers_of_loops(self):
        both = (0, ((0, 0, 0),), (0, 0, 0), ())
        program = program_of((1,), (((((0,), (2,)), ((0, 0), (2, 0))), (both,)), ((((0,), (2,)),), (at(0),))))
        self.assertEqual(spans(program), [(0, 1), (1,), (1, -1), (1, 0), (1, 1)])

    def test_some_programs_by_the_words_of_the_document(self):
        for program in some_programs():
            steps = steps_of(program)
            wanted = set()
            for i, j, cells in pairs(program):
                told = span(program, i, j)
                if steps[i][0] == steps[j][0]:
                    self.assertEqual(told, tuple(b - a for a, b in zip(steps[i][1], steps[j][1])))
                    wanted.add(told)
                else:
                    self.assertIsNone(told)
            self.assertEqual(spans(program), sorted(wanted))


class NothingKept(unittest.TestCase):
    def ask(self, program):
        return [
            touches(program, 0, 1), touches(program, 8, 3), pairs(program), sources(program), span(program, 0, 3),
            span(program, 0, 8), spans(program),
        ]

    def test_what_is_handed_in_stays_and_equal_things_are_told_again(self):
        program = copy.deepcopy(PROGRAM)
        one = self.ask(program)
        self.assertEqual(self.ask(program), one)
        self.assertEqual(self.ask(PROGRAM), one)
        self.assertEqual(program, PROGRAM)

    def test_changing_what_is_told_changes_no_later_answer(self):
        told = pairs(PROGRAM)
        for i, j, cells in told:
            cells.append("more")
        told.pop()
        self.assertEqual(pairs(PROGRAM), PAIRS)
        told = sources(PROGRAM)
        for reads in told:
            reads.append(0)
        told.reverse()
        self.assertEqual(sources(PROGRAM), SOURCES)
        told = spans(PROGRAM)
        told.clear()
        self.assertEqual(spans(PROGRAM), [(0,), (1,)])

    def test_no_two_told_lists_are_one(self):
        lists = [cells for i, j, cells in pairs(PROGRAM) + pairs(PROGRAM)] + sources(PROGRAM) + sources(PROGRAM)
        self.assertEqual(len({id(told) for told in lists}), len(lists))


if __name__ == "__main__":
    unittest.main()
