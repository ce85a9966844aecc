"""Plans: the lines of each deed, the keys that they give to steps, and the steps by their keys."""

from nestturn.errors import NoPlan, Tied
from nestturn.forms import comes_to, is_form, is_tuple_of, is_whole
from nestturn.programs import steps_of

MOST_LINES = 9
GREATEST_SIZE = 99
MOST_LOOPS = 3


# Things of any kind may say that they are like a word; only a text is one.
def is_word(thing, word):
    return isinstance(thing, str) and thing == word


def is_size(thing):
    return is_whole(thing) and 1 <= thing <= GREATEST_SIZE


def is_line(thing, d):
    if is_tuple_of(thing, 2, 2):
        return is_word(thing[0], "form") and is_form(thing[1], d)
    if is_tuple_of(thing, 3, 3):
        return is_word(thing[0], "block") and is_form(thing[1], d) and is_size(thing[2])
    return False


def is_lines(thing, d):
    return is_tuple_of(thing, 1, MOST_LINES) and all([is_line(line, d) for line in thing])


def is_nest_plan(thing, nest):
    d = len(nest[0])
    number = len(nest[1])
    return is_tuple_of(thing, number, number) and all([is_lines(lines, d) for lines in thing])


def numbers_of_lines(nest_plans):
    told = []
    for deeds in nest_plans:
        told.extend([len(lines) for lines in deeds])
    return told


def is_plan(program, thing):
    nests = program[1]
    if not is_tuple_of(thing, len(nests), len(nests)):
        return False
    if not all([is_nest_plan(part, nest) for part, nest in zip(thing, nests)]):
        return False
    return len(set(numbers_of_lines(thing))) == 1


def refuse_no_plan(program, plan):
    if not is_plan(program, plan):
        raise NoPlan("no plan: each deed of each nest is to have as many lines, one to nine")


def number_form(number, d):
    return (number,) + (0,) * d


def count_form(k, d):
    return (0,) + tuple([1 if k == at else 0 for at in range(d)])


def plain_lines(nest, deed, d):
    counted = [count_form(k, d) for k in range(MOST_LOOPS)]
    forms = [number_form(nest, d)] + counted + [number_form(deed, d)]
    return tuple([("form", form) for form in forms])


def plain_nest_plan(nest, loops, deeds):
    return tuple([plain_lines(nest, deed, len(loops)) for deed in range(len(deeds))])


def plain_plan(program):
    return tuple([plain_nest_plan(number, nest[0], nest[1]) for number, nest in enumerate(program[1])])


def line_comes_to(line, counts):
    worth = comes_to(line[1], counts)
    return worth // line[2] if line[0] == "block" else worth


def key_of(plan, step):
    return tuple([line_comes_to(line, step[1]) for line in plan[step[0]][step[2]]])


def keys(program, plan):
    refuse_no_plan(program, plan)
    return [key_of(plan, step) for step in steps_of(program)]


# Each step is tied to the least one with its key, so the least tuple is the pair that is due.
def refuse_tied(told_keys):
    firsts = {}
    tied = []
    for step, key in enumerate(told_keys):
        if key in firsts:
            tied.append((firsts[key], step))
        else:
            firsts[key] = step
    if tied:
        raise Tied(min(tied))


def order_of(program, plan):
    told_keys = keys(program, plan)
    refuse_tied(told_keys)
    return sorted(range(len(told_keys)), key=lambda step: told_keys[step])
