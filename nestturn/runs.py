"""Runs: the steps of a program done in the order of a row."""

from nestturn.errors import NoOrder
from nestturn.forms import comes_to, is_whole
from nestturn.programs import cells_of, deed_of, number_of_steps, steps_of


def plain(program):
    return list(range(number_of_steps(program[1])))


def is_row(program, thing):
    if not isinstance(thing, list):
        return False
    number = number_of_steps(program[1])
    if not all([is_whole(step) and 0 <= step < number for step in thing]):
        return False
    return len(set(thing)) == len(thing)


def refuse_no_row(program, row):
    if not is_row(program, row):
        raise NoOrder("no row of steps: each is to be a step of the program, at most once")


def worth_of(deed, counts, cells, held):
    worth = comes_to(deed[2], counts)
    for read, cell in zip(deed[3], cells):
        worth += read[0] * held.get(cell, 0)
    return worth


def run(program, row, filling):
    refuse_no_row(program, row)
    steps = steps_of(program)
    cells = cells_of(program)
    held = dict(filling)
    ends = {}
    for number in row:
        step = steps[number]
        worth = worth_of(deed_of(program, step), step[1], cells[number][1], held)
        held[cells[number][0]] = worth
        ends[cells[number][0]] = worth
    return ends
