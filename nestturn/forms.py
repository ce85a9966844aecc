"""Whole numbers, forms, loops, and the counts that loops go through."""


def is_whole(thing):
    return isinstance(thing, int) and not isinstance(thing, bool)


def is_tuple_of(thing, least, most):
    return isinstance(thing, tuple) and least <= len(thing) <= most


def is_form(thing, d):
    return is_tuple_of(thing, d + 1, d + 1) and all([is_whole(number) for number in thing])


def comes_to(form, counts):
    return form[0] + sum([number * count for number, count in zip(form[1:], counts)])


def is_bound(thing, d):
    if not is_form(thing, d):
        return False
    return -9 <= thing[0] <= 9 and all([-2 <= number <= 2 for number in thing[1:]])


def is_loop(thing, d):
    return is_tuple_of(thing, 2, 2) and is_bound(thing[0], d) and is_bound(thing[1], d)


def is_loops(thing):
    return is_tuple_of(thing, 1, 3) and all([is_loop(loop, k) for k, loop in enumerate(thing)])


def with_next_count(ahead, low, high):
    longer = []
    for counts in ahead:
        for count in range(comes_to(low, counts), comes_to(high, counts)):
            longer.append(counts + (count,))
    return longer


# Each loop lengthens rising counts by rising ones, so the list needs no sorting.
def counts_of(loops):
    told = [()]
    for low, high in loops:
        told = with_next_count(told, low, high)
    return told
