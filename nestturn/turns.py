"""Plans turned: lines exchanged, backward, slanted, moved, blocked and cut."""

from nestturn.errors import NoTurn
from nestturn.plans import MOST_LINES, number_form, refuse_no_plan


# All deeds of a plan have as many lines, so any one of them tells the number.
def number_of_lines(plan):
    return len(plan[0][0])


def refuse_no_nest(plan, nest):
    if not 0 <= nest < len(plan):
        raise NoTurn("there is no such nest")


def refuse_no_deed(deeds, deed):
    if not 0 <= deed < len(deeds):
        raise NoTurn("there is no such deed in the nest")


def refuse_no_line(plan, at):
    if not 0 <= at < number_of_lines(plan):
        raise NoTurn("there is no such line in the plan")


def refuse_no_forms(deeds, at):
    if not all([lines[at][0] == "form" for lines in deeds]):
        raise NoTurn("a line that is turned so is to be a form, and it is a block")


def replaced(things, at, thing):
    return things[:at] + (thing,) + things[at + 1:]


def put_ahead(things, at, thing):
    return things[:at] + (thing,) + things[at:]


def left_out(things, at):
    return things[:at] + things[at + 1:]


def exchanged_lines(lines, a, b):
    return replaced(replaced(lines, a, lines[b]), b, lines[a])


def exchanged(program, plan, nest, a, b):
    refuse_no_plan(program, plan)
    refuse_no_nest(plan, nest)
    refuse_no_line(plan, a)
    refuse_no_line(plan, b)
    return replaced(plan, nest, tuple([exchanged_lines(lines, a, b) for lines in plan[nest]]))


def backward_lines(lines, a):
    form = tuple([-number for number in lines[a][1]])
    return replaced(lines, a, ("form", form))


def backward(program, plan, nest, a):
    refuse_no_plan(program, plan)
    refuse_no_nest(plan, nest)
    refuse_no_line(plan, a)
    refuse_no_forms(plan[nest], a)
    return replaced(plan, nest, tuple([backward_lines(lines, a) for lines in plan[nest]]))


def slanted_lines(lines, a, b, factor):
    form = tuple([number + factor * more for number, more in zip(lines[a][1], lines[b][1])])
    return replaced(lines, a, ("form", form))


def slanted(program, plan, nest, a, b, factor):
    refuse_no_plan(program, plan)
    refuse_no_nest(plan, nest)
    refuse_no_line(plan, a)
    refuse_no_line(plan, b)
    if a == b:
        raise NoTurn("a line is not slanted by itself")
    refuse_no_forms(plan[nest], a)
    refuse_no_forms(plan[nest], b)
    return replaced(plan, nest, tuple([slanted_lines(lines, a, b, factor) for lines in plan[nest]]))


def moved_lines(lines, a, number):
    form = lines[a][1]
    return replaced(lines, a, ("form", (form[0] + number,) + form[1:]))


def moved(program, plan, nest, deed, a, number):
    refuse_no_plan(program, plan)
    refuse_no_nest(plan, nest)
    deeds = plan[nest]
    refuse_no_deed(deeds, deed)
    refuse_no_line(plan, a)
    refuse_no_forms(deeds[deed:deed + 1], a)
    return replaced(plan, nest, replaced(deeds, deed, moved_lines(deeds[deed], a, number)))


def with_block_ahead(deeds, a, size):
    return tuple([put_ahead(lines, a, ("block", lines[a][1], size)) for lines in deeds])


def with_nothing_ahead(deeds, a, d):
    return tuple([put_ahead(lines, a, ("form", number_form(0, d))) for lines in deeds])


# All nests are to have as many lines, so the others get one that comes to 0 for each of their steps.
def blocked(program, plan, nest, a, size):
    refuse_no_plan(program, plan)
    refuse_no_nest(plan, nest)
    refuse_no_line(plan, a)
    refuse_no_forms(plan[nest], a)
    if number_of_lines(plan) == MOST_LINES:
        raise NoTurn("the plan has nine lines, and no room for one more")
    turned = []
    for number, deeds in enumerate(plan):
        d = len(program[1][number][0])
        turned.append(with_block_ahead(deeds, a, size) if number == nest else with_nothing_ahead(deeds, a, d))
    return tuple(turned)


def cut_deeds(deeds, a):
    return tuple([left_out(lines, a) for lines in deeds])


def cut(program, plan, a):
    refuse_no_plan(program, plan)
    refuse_no_line(plan, a)
    if number_of_lines(plan) == 1:
        raise NoTurn("the plan has one line alone, and it is to stay")
    return tuple([cut_deeds(deeds, a) for deeds in plan])
