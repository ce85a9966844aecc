"""The steps that are needed for some cells: what else the program does may be left out."""

from nestturn.programs import cells_of
from nestturn.touch import sources


def last_setters(program):
    setters = {}
    for number, cells in enumerate(cells_of(program)):
        setters[cells[0]] = number
    return setters


def marked(numbers):
    marks = {}
    for number in numbers:
        marks[number] = True
    return marks


# A source comes ahead of the steps that read from it, so going backward a step is looked at when all that need it have
# been.
def needed(program, cells):
    setters = last_setters(program)
    wanted = marked([setters[cell] for cell in cells if cell in setters])
    listed = sources(program)
    told = []
    for number in range(len(listed) - 1, -1, -1):
        if number in wanted:
            told.append(number)
            wanted.update(marked(listed[number]))
    told.reverse()
    return told
