"""Which steps touch one another, where their reads come from, and the spans between touching steps."""

from nestturn.programs import cells_of, steps_of


def touched_cells(one, other):
    told = []
    if one[0] == other[0] or one[0] in other[1]:
        told.append(one[0])
    if other[0] in one[1]:
        told.append(other[0])
    return sorted(set(told))


def touches(program, i, j):
    cells = cells_of(program)
    return i != j and touched_cells(cells[i], cells[j]) != []


def pairs(program):
    cells = cells_of(program)
    told = []
    for i in range(len(cells)):
        for j in range(i + 1, len(cells)):
            touched = touched_cells(cells[i], cells[j])
            if touched:
                told.append((i, j, touched))
    return told


# A step's reads are looked up ahead of its own setting: it is no source of itself.
def sources(program):
    setters = {}
    told = []
    for number, cells in enumerate(cells_of(program)):
        told.append([setters.get(cell) for cell in cells[1]])
        setters[cells[0]] = number
    return told


def span_between(one, other):
    if one[0] != other[0]:
        return None
    return tuple([later - earlier for earlier, later in zip(one[1], other[1])])


def span(program, i, j):
    steps = steps_of(program)
    return span_between(steps[i], steps[j])


def spans(program):
    steps = steps_of(program)
    between = [span_between(steps[i], steps[j]) for i, j, cells in pairs(program)]
    return sorted(set([told for told in between if told is not None]))
