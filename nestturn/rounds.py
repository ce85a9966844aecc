"""Rounds of steps that can go at once, and the lines of plans that are free."""

from nestturn.keeping import is_order
from nestturn.plans import keys
from nestturn.runs import plain
from nestturn.touch import pairs
from nestturn.turns import refuse_no_line


def touched_ahead(program):
    ahead = [[] for step in plain(program)]
    for i, j, cells in pairs(program):
        ahead[j].append(i)
    return ahead


def rounds_of_steps(ahead):
    numbers = []
    for touched in ahead:
        numbers.append(1 + max([numbers[step] for step in touched], default=-1))
    return numbers


def steps_of_round(numbers, number):
    return [step for step, found in enumerate(numbers) if found == number]


# A step is in no earlier round because it touches one of the round ahead of it: so there is always a way back.
def chain_of(ahead, numbers):
    chain = []
    choice = list(range(len(numbers)))
    for number in range(max(numbers, default=-1), -1, -1):
        step = min([found for found in choice if numbers[found] == number])
        chain.append(step)
        choice = ahead[step]
    chain.reverse()
    return chain


def rounds(program):
    ahead = touched_ahead(program)
    numbers = rounds_of_steps(ahead)
    listed = [steps_of_round(numbers, number) for number in range(max(numbers, default=-1) + 1)]
    return (listed, chain_of(ahead, numbers))


def all_steps(lists):
    steps = []
    for listed in lists:
        steps.extend(listed)
    return steps


def numbers_of_lists(lists):
    numbers = {}
    for number, listed in enumerate(lists):
        for step in listed:
            numbers[step] = number
    return numbers


def are_rounds(program, lists):
    if not is_order(program, all_steps(lists)):
        return False
    numbers = numbers_of_lists(lists)
    return all([numbers[i] < numbers[j] for i, j, cells in pairs(program)])


def barring(program, plan, a):
    told_keys = keys(program, plan)
    refuse_no_line(plan, a)
    for i, j, cells in pairs(program):
        one = told_keys[i]
        other = told_keys[j]
        if one[:a] == other[:a] and one[a] != other[a]:
            return (i, j)
    return None
