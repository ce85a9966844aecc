"""Two rows of steps compared: alike from whatever filling, or unlike from one that is told."""

from nestturn.traces import traced


# A cell that no step of the row sets holds what the filling has in it.
def trace_by(traces, cell):
    return traces.get(cell, (0, [(cell, 1)]))


def unlike_parts(parts, others):
    factors = dict(parts)
    other_factors = dict(others)
    cells = sorted(set(factors) | set(other_factors))
    return [cell for cell in cells if factors.get(cell, 0) != other_factors.get(cell, 0)]


# Where the numbers are unlike, tables of 0 alone show it; else a 1 in one cell shows the factors of that cell.
def showing_filling(trace, other):
    if trace[0] != other[0]:
        return {}
    return {unlike_parts(trace[1], other[1])[0]: 1}


def held_from(filling, trace):
    return trace[0] + sum([factor * filling.get(cell, 0) for cell, factor in trace[1]])


def compared(program, row, other):
    traces = traced(program, row)
    other_traces = traced(program, other)
    for cell in sorted(set(traces) | set(other_traces)):
        by_one = trace_by(traces, cell)
        by_other = trace_by(other_traces, cell)
        if by_one != by_other:
            filling = showing_filling(by_one, by_other)
            return ("unlike", filling, cell, held_from(filling, by_one), held_from(filling, by_other))
    return ("alike",)
