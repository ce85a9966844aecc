"""Programs: what is one, its steps, and the cells that the steps set and read."""

from nestturn.errors import NoProgram, TooMany
from nestturn.forms import comes_to, counts_of, is_form, is_loops, is_tuple_of, is_whole

MOST_STEPS = 60


def has_few_figures(number):
    return abs(number) < 10 ** 30


def is_widths(thing):
    return is_tuple_of(thing, 1, 3) and all([is_whole(width) and 1 <= width <= 2 for width in thing])


def is_place_form(thing, d):
    return is_form(thing, d) and all([-99 <= number <= 99 for number in thing])


def is_start(thing, d):
    return is_form(thing, d) and all([has_few_figures(number) for number in thing])


def is_table_with_place(table, place, widths, d):
    if not is_whole(table) or not 0 <= table < len(widths):
        return False
    return is_tuple_of(place, widths[table], widths[table]) and all([is_place_form(form, d) for form in place])


def is_read(thing, widths, d):
    if not is_tuple_of(thing, 3, 3):
        return False
    if not is_whole(thing[0]) or not has_few_figures(thing[0]):
        return False
    return is_table_with_place(thing[1], thing[2], widths, d)


def is_reads(thing, widths, d):
    return is_tuple_of(thing, 0, 3) and all([is_read(read, widths, d) for read in thing])


def is_deed(thing, widths, d):
    if not is_tuple_of(thing, 4, 4):
        return False
    if not is_table_with_place(thing[0], thing[1], widths, d):
        return False
    return is_start(thing[2], d) and is_reads(thing[3], widths, d)


def is_nest(thing, widths):
    if not is_tuple_of(thing, 2, 2) or not is_loops(thing[0]):
        return False
    d = len(thing[0])
    return is_tuple_of(thing[1], 1, 4) and all([is_deed(deed, widths, d) for deed in thing[1]])


def is_nests(thing, widths):
    return is_tuple_of(thing, 1, 3) and all([is_nest(nest, widths) for nest in thing])


def number_of_steps(nests):
    return sum([len(counts_of(loops)) * len(deeds) for loops, deeds in nests])


def program_of(widths, nests):
    if not is_widths(widths):
        raise NoProgram("the widths are no tuple of one to three numbers 1 or 2")
    if not is_nests(nests, widths):
        raise NoProgram("the nests are no nests over these tables")
    if number_of_steps(nests) > MOST_STEPS:
        raise TooMany("the program has more than sixty steps")
    return (widths, nests)


def steps_of(program):
    steps = []
    for nest, loops_and_deeds in enumerate(program[1]):
        for counts in counts_of(loops_and_deeds[0]):
            for deed in range(len(loops_and_deeds[1])):
                steps.append((nest, counts, deed))
    return steps


def deed_of(program, step):
    return program[1][step[0]][1][step[2]]


def cell_at(table, place, counts):
    return (table, tuple([comes_to(form, counts) for form in place]))


def cells_of_step(program, step):
    counts = step[1]
    deed = deed_of(program, step)
    reads = [cell_at(table, place, counts) for factor, table, place in deed[3]]
    return (cell_at(deed[0], deed[1], counts), reads)


def cells_of(program):
    return [cells_of_step(program, step) for step in steps_of(program)]
