"""How far an order reaches, the turnings of a nest, and the best of those that keep."""

from nestturn.keeping import broken, refuse_no_order
from nestturn.plans import count_form, order_of, plain_plan
from nestturn.programs import cells_of
from nestturn.rounds import barring
from nestturn.turns import replaced

BETWEEN_TABLES = 100


def far_apart(cell, other):
    if cell[0] != other[0]:
        return BETWEEN_TABLES
    return sum([abs(one - two) for one, two in zip(cell[1], other[1])])


def reach(program, order):
    refuse_no_order(program, order)
    cells = cells_of(program)
    settings = [cells[step][0] for step in order]
    return sum([far_apart(cell, behind) for cell, behind in zip(settings, settings[1:])])


def each_longer(things, choice):
    longer = []
    for thing in things:
        longer.extend([thing + (number,) for number in choice])
    return longer


def tuples_of(choice, d):
    told = [()]
    for place in range(d):
        told = each_longer(told, choice)
    return told


def loops_of(program, nest):
    return len(program[1][nest][0])


def turnings(program, nest):
    d = loops_of(program, nest)
    told = []
    for lines in tuples_of(tuple(range(d)), d):
        if len(set(lines)) == d:
            told.extend([(lines, signs) for signs in tuples_of((1, -1), d)])
    return told


def count_line(k, d, sign):
    return ("form", tuple([sign * number for number in count_form(k, d)]))


def turned_by(program, nest, turning):
    d = loops_of(program, nest)
    turned = tuple([count_line(k, d, sign) for k, sign in zip(turning[0], turning[1])])
    plan = plain_plan(program)
    deeds = tuple([lines[:1] + turned + lines[1 + d:] for lines in plan[nest]])
    return replaced(plan, nest, deeds)


# Of one nest no two turned counts are the same, so no two steps are tied.
def order_turned(program, nest, turning):
    return order_of(program, turned_by(program, nest, turning))


def turnings_that_keep(program, nest):
    told = []
    for turning in turnings(program, nest):
        if broken(program, order_turned(program, nest, turning)) is None:
            told.append(turning)
    return told


def best(program, nest):
    kept = turnings_that_keep(program, nest)
    reaches = [reach(program, order_turned(program, nest, turning)) for turning in kept]
    least = min(reaches)
    return (least, kept[reaches.index(least)])


def freeing(program, nest):
    d = loops_of(program, nest)
    kept = turnings_that_keep(program, nest)
    return [turning for turning in kept if barring(program, turned_by(program, nest, turning), d) is None]
