"""Whether two places within loops meet, and the reasons that show them to be apart."""

from nestturn.forms import comes_to, counts_of, is_tuple_of, is_whole


def place_at(place, counts):
    return tuple([comes_to(form, counts) for form in place])


def first_meeting(counts, place, other_counts, other):
    firsts = {}
    for there in other_counts:
        firsts.setdefault(place_at(other, there), there)
    for here in counts:
        there = firsts.get(place_at(place, here))
        if there is not None:
            return (here, there)
    return None


def divisor_of_two(one, other):
    while other != 0:
        rest = one % other
        one = other
        other = rest
    return abs(one)


def greatest_divisor(numbers):
    divisor = 0
    for number in numbers:
        divisor = divisor_of_two(divisor, number)
    return divisor


def is_times(number, divisor):
    return number == 0 if divisor == 0 else number % divisor == 0


def empty_reasons(counts, other_counts):
    return [("empty", which) for which, listed in enumerate((counts, other_counts)) if not listed]


# A divisor of 1 divides every difference, so it never comes to be a reason.
def divisor_reasons(k, form, other):
    divisor = greatest_divisor(form[1:] + other[1:])
    if is_times(form[0] - other[0], divisor):
        return []
    return [("divisor", k, divisor)]


def shares_of(numbers, counts):
    told = []
    for at, number in enumerate(numbers):
        told.append([number * listed[at] for listed in counts])
    return told


# A share is least and greatest where its count is, so looking at all counts finds both.
def bounds_reasons(k, form, other, counts, other_counts):
    if not counts or not other_counts:
        return []
    signed = [-number for number in other[1:]]
    shares = shares_of(form[1:], counts) + shares_of(signed, other_counts)
    difference = form[0] - other[0]
    low = difference + sum([min(share) for share in shares])
    high = difference + sum([max(share) for share in shares])
    return [("bounds", k, low, high)] if low > 0 or high < 0 else []


def all_reasons(loops, place, others, other):
    counts = counts_of(loops)
    other_counts = counts_of(others)
    told = empty_reasons(counts, other_counts)
    for k, form in enumerate(place):
        told.extend(divisor_reasons(k, form, other[k]))
        told.extend(bounds_reasons(k, form, other[k], counts, other_counts))
    if first_meeting(counts, place, other_counts, other) is None:
        told.append(("tried",))
    return told


def meeting(loops, place, others, other):
    found = first_meeting(counts_of(loops), place, counts_of(others), other)
    if found is None:
        return ("apart", all_reasons(loops, place, others, other)[0])
    return ("meet", found[0], found[1])


# A truth is like 0 or 1 where tuples are compared, but it is no whole number.
def is_reason(loops, place, others, other, reason):
    if not is_tuple_of(reason, 1, 4) or not all([is_whole(number) for number in reason[1:]]):
        return False
    return reason in all_reasons(loops, place, others, other)
