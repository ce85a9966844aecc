"""Traces: what the cells hold when a row of steps is done, told for whatever the tables held at first."""

from nestturn.forms import comes_to
from nestturn.programs import cells_of, deed_of, steps_of
from nestturn.runs import refuse_no_row


# A cell that no step has set yet holds just what the filling has in it.
def trace_held(cell, held):
    return held.get(cell, (0, {cell: 1}))


def add_times(factors, factor, more):
    for cell, number in more.items():
        factors[cell] = factors.get(cell, 0) + factor * number


def trace_of_step(deed, counts, cells, held):
    number = comes_to(deed[2], counts)
    factors = {}
    for read, cell in zip(deed[3], cells):
        trace = trace_held(cell, held)
        number += read[0] * trace[0]
        add_times(factors, read[0], trace[1])
    return (number, factors)


def told_trace(trace):
    factors = trace[1]
    return (trace[0], [(cell, factors[cell]) for cell in sorted(factors) if factors[cell] != 0])


def traced(program, row):
    refuse_no_row(program, row)
    steps = steps_of(program)
    cells = cells_of(program)
    held = {}
    for number in row:
        step = steps[number]
        held[cells[number][0]] = trace_of_step(deed_of(program, step), step[1], cells[number][1], held)
    told = {}
    for cell, trace in held.items():
        told[cell] = told_trace(trace)
    return told
