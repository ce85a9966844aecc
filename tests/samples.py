"""Programs and wrong things that several tests use."""

# Three counts with two deeds, then the three counts (0, 0), (0, 1), (1, 1) with one deed:
#   a[i] = 5 + 2i
#   b[i][1 - i] = 3 a[i] - a[i + 1]
#   a[i + j] = 1 + 2 a[i + j] + b[i][1 - i]
WIDTHS = (1, 2)
NESTS = (
    (
        (((0,), (3,)),),
        (
            (0, ((0, 1),), (5, 2), ()),
            (1, ((0, 1), (1, -1)), (0, 0), ((3, 0, ((0, 1),)), (-1, 0, ((1, 1),)))),
        ),
    ),
    (
        (((0,), (2,)), ((0, 1), (2, 0))),
        (
            (0, ((0, 1, 1),), (1, 0, 0), ((2, 0, ((0, 1, 1),)), (1, 1, ((0, 1, 0), (1, -1, 0))))),
        ),
    ),
)
PROGRAM = (WIDTHS, NESTS)

STEPS = [
    (0, (0,), 0), (0, (0,), 1), (0, (1,), 0), (0, (1,), 1), (0, (2,), 0), (0, (2,), 1),
    (1, (0, 0), 0), (1, (0, 1), 0), (1, (1, 1), 0),
]

CELLS = [
    ((0, (0,)), []),
    ((1, (0, 1)), [(0, (0,)), (0, (1,))]),
    ((0, (1,)), []),
    ((1, (1, 0)), [(0, (1,)), (0, (2,))]),
    ((0, (2,)), []),
    ((1, (2, -1)), [(0, (2,)), (0, (3,))]),
    ((0, (0,)), [(0, (0,)), (1, (0, 1))]),
    ((0, (1,)), [(0, (1,)), (1, (0, 1))]),
    ((0, (2,)), [(0, (2,)), (1, (1, 0))]),
]

ONE_LOOP = (((0,), (1,)),)
NO_COUNTS = (((3,), (3,)),)
SIXTY_COUNTS = (((0,), (5,)), ((0, 0), (4, 0)), ((0, 0, 0), (3, 0, 0)))
TWENTY_COUNTS = (((0,), (5,)), ((0, 0), (4, 0)))


class Other:
    """A thing of a kind that the program does not know."""


NOT_WHOLE = [True, False, None, "1", "", 1.0, 1j, (1,), [1], {1: 1}, {1}, b"1", Other(), int]
NOT_TUPLE = [True, False, None, 0, 1, "text", "", 1.0, [], {}, set(), b"", Other(), tuple, range(2)]


def zero_form(d):
    return (0,) * (d + 1)


def plain_deed(d):
    return (0, (zero_form(d),), zero_form(d), ())


def plain_nest(loops, deeds=1):
    return (loops, (plain_deed(len(loops)),) * deeds)


def parts_of(thing, path=()):
    """Each part of nested tuples, the whole too, as (path, part)."""
    told = [(path, thing)]
    if isinstance(thing, tuple):
        for at, part in enumerate(thing):
            told += parts_of(part, path + (at,))
    return told


def with_part(thing, path, part):
    """The nested tuples with another part at the path."""
    if not path:
        return part
    at = path[0]
    return thing[:at] + (with_part(thing[at], path[1:], part),) + thing[at + 1:]


def some_programs():
    """Programs of one and of two nests, with deeds that read and set near cells: a family to look all through."""
    told = []
    for a in (-1, 0, 2):
        for b in (-1, 1):
            for loops in ((((0,), (3,)),), (((-1,), (1,)), ((0, 1), (2, 0))), NO_COUNTS):
                d = len(loops)
                near = ((a,) + (b,) * d,)
                deeds = (
                    (0, ((0,) + (1,) * d,), (a, 3) + (0,) * (d - 1), ((b, 0, near), (a, 1, near * 2))),
                    (1, near + ((1,) + (0,) * d,), (7,) + (b,) * d, ((2, 0, ((0,) + (1,) * d,)), (-1, 0, near))),
                )
                last = (((0,), (2,)),), ((0, ((a, b),), (1, 1), ((3, 0, ((1, -1),)), (b, 0, ((a, b),)))),)
                told.append(((1, 2), ((loops, deeds),)))
                told.append(((1, 2), ((loops, deeds[:1]), last)))
                told.append(((1, 2), (last, (loops, deeds), last)))
    return told
