"""Orders that keep what a program does, and the exchanges of neighbours that lead to them."""

from nestturn.errors import NoOrder
from nestturn.programs import number_of_steps
from nestturn.runs import is_row, plain
from nestturn.touch import pairs


def is_order(program, thing):
    return is_row(program, thing) and len(thing) == number_of_steps(program[1])


def refuse_no_order(program, order):
    if not is_order(program, order):
        raise NoOrder("no order: each step of the program is to be in it just once")


def places_of(order):
    places = {}
    for place, step in enumerate(order):
        places[step] = place
    return places


def broken(program, order):
    refuse_no_order(program, order)
    places = places_of(order)
    for i, j, cells in pairs(program):
        if places[i] > places[j]:
            return (i, j)
    return None


# The steps that are not at their places yet stay in plain order, so each one goes only past lesser ones that the
# order has behind it: no two steps change places twice, and in an order that keeps none of them touch.
def led(program, order):
    if broken(program, order) is not None:
        return None
    rest = plain(program)
    exchanges = []
    for place, step in enumerate(order):
        far = rest.index(step)
        exchanges.extend(list(range(place + far - 1, place - 1, -1)))
        rest.pop(far)
    return exchanges


# From the plain order on no exchange has turned two touching steps about yet, so the lesser one is always ahead.
def touching_of(program):
    touching = {}
    for i, j, cells in pairs(program):
        touching[(i, j)] = True
    return touching


def leads(program, exchanges, order):
    refuse_no_order(program, order)
    touching = touching_of(program)
    steps = plain(program)
    for place in exchanges:
        if not 0 <= place < len(steps) - 1:
            return False
        two = (steps[place], steps[place + 1])
        if two in touching:
            return False
        steps[place] = two[1]
        steps[place + 1] = two[0]
    return steps == order
