"""Programs and wrong things that several tests use."""

from nestturn.programs import program_of

# Three counts with two deeds, then the three counts (0, 0), (0, 1), (1, 1) with one deed:
#   a[i] = 5 + 2i
#   b[i][1 - i] = 3 a[i] - a[i + 1]
#   a[i + j] = 1 + 2 a[i + j] + b[i][1 - i]
WIDTHS = (1, 2)
NESTS = (
    (
        (((0,), (3,)),),
        (
            (0, ((0, 1),), (5, 2), ()),
            (1, ((0, 1), (1, -1)), (0, 0), ((3, 0, ((0, 1),)), (-1, 0, ((1, 1),)))),
        ),
    ),
    (
        (((0,), (2,)), ((0, 1), (2, 0))),
        (
            (0, ((0, 1, 1),), (1, 0, 0), ((2, 0, ((0, 1, 1),)), (1, 1, ((0, 1, 0), (1, -1, 0))))),
        ),
    ),
)
PROGRAM = (WIDTHS, NESTS)

STEPS = [
    (0, (0,), 0), (0, (0,), 1), (0, (1,), 0), (0, (1,), 1), (0, (2,), 0), (0, (2,), 1),
    (1, (0, 0), 0), (1, (0, 1), 0), (1, (1, 1), 0),
]

CELLS = [
    ((0, (0,)), []),
    ((1, (0, 1)), [(0, (0,)), (0, (1,))]),
    ((0, (1,)), []),
    ((1, (1, 0)), [(0, (1,)), (0, (2,))]),
    ((0, (2,)), []),
    ((1, (2, -1)), [(0, (2,)), (0, (3,))]),
    ((0, (0,)), [(0, (0,)), (1, (0, 1))]),
    ((0, (1,)), [(0, (1,)), (1, (0, 1))]),
    ((0, (2,)), [(0, (2,)), (1, (1, 0))]),
]

ONE_LOOP = (((0,), (1,)),)
NO_COUNTS = (((3,), (3,)),)
SIXTY_COUNTS = (((0,), (5,)), ((0, 0), (4, 0)), ((0, 0, 0), (3, 0, 0)))
TWENTY_COUNTS = (((0,), (5,)), ((0, 0), (4, 0)))


# Three nests with one, two and three loops, over three tables:
#   a[i] = 1 + i                      i from 0 to 1
#   b[j][i] = 2 a[j - 1]              i 0, j from 1 to 2
#   c[j] = b[j][0] + c[j - 1]
#   a[k] = c[k + 1] - a[1 - k]        i 0, j 0, k from 0 to 1
TRIPLE = (
    (1, 2, 1),
    (
        ((((0,), (2,)),), ((0, ((0, 1),), (1, 1), ()),)),
        (
            (((0,), (1,)), ((1, 0), (3, 0))),
            (
                (1, ((0, 0, 1), (0, 1, 0)), (0, 0, 0), ((2, 0, ((-1, 0, 1),)),)),
                (2, ((0, 0, 1),), (0, 0, 0), ((1, 1, ((0, 0, 1), (0, 0, 0))), (1, 2, ((-1, 0, 1),)))),
            ),
        ),
        (
            (((0,), (1,)), ((0, 0), (1, 0)), ((0, 0, 0), (2, 0, 0))),
            ((0, ((0, 0, 0, 1),), (0, 0, 0, 0), ((1, 2, ((1, 0, 0, 1),)), (-1, 0, ((1, 0, 0, -1),)))),),
        ),
    ),
)
TRIPLE_TOUCHING = [
    (0, 2), (0, 6), (0, 7), (1, 4), (1, 6), (1, 7), (2, 3), (2, 6), (3, 5), (3, 6), (4, 5), (4, 7), (5, 7), (6, 7),
]


class Other:
    """A thing of a kind that the program does not know."""


NOT_WHOLE = [True, False, None, "1", "", 1.0, 1j, (1,), [1], {1: 1}, {1}, b"1", Other(), int]
NOT_TUPLE = [True, False, None, 0, 1, "text", "", 1.0, [], {}, set(), b"", Other(), tuple, range(2)]


def form(*numbers):
    return ("form", numbers)


def block(size, *numbers):
    return ("block", numbers, size)


def zero_form(d):
    return (0,) * (d + 1)


def plain_deed(d):
    return (0, (zero_form(d),), zero_form(d), ())


def plain_nest(loops, deeds=1):
    return (loops, (plain_deed(len(loops)),) * deeds)


def one_nest(*deeds, loops=ONE_LOOP, widths=(1,)):
    """A program of one nest, at one count of one loop unless loops are told."""
    return program_of(widths, ((loops, deeds),))


def at(place, *reads, start=0):
    """A deed that sets the cell of the table 0 at the place to start and the sum of those at reads."""
    return (0, ((place, 0),), (start, 0), tuple((1, 0, ((read, 0),)) for read in reads))


def parts_of(thing, path=()):
    """Each part of nested tuples, the whole too, as (path, part)."""
    told = [(path, thing)]
    if isinstance(thing, tuple):
        for at, part in enumerate(thing):
            told += parts_of(part, path + (at,))
    return told


def with_part(thing, path, part):
    """The nested tuples with another part at the path."""
    if not path:
        return part
    at = path[0]
    return thing[:at] + (with_part(thing[at], path[1:], part),) + thing[at + 1:]


def some_programs():
    """Programs of one and of two nests, with deeds that read and set near cells: a family to look all through."""
    told = []
    for a in (-1, 0, 2):
        for b in (-1, 1):
            for loops in ((((0,), (3,)),), (((-1,), (1,)), ((0, 1), (2, 0))), NO_COUNTS):
                d = len(loops)
                near = ((a,) + (b,) * d,)
                deeds = (
                    (0, ((0,) + (1,) * d,), (a, 3) + (0,) * (d - 1), ((b, 0, near), (a, 1, near * 2))),
                    (1, near + ((1,) + (0,) * d,), (7,) + (b,) * d, ((2, 0, ((0,) + (1,) * d,)), (-1, 0, near))),
                )
                last = (((0,), (2,)),), ((0, ((a, b),), (1, 1), ((3, 0, ((1, -1),)), (b, 0, ((a, b),)))),)
                told.append(((1, 2), ((loops, deeds),)))
                told.append(((1, 2), ((loops, deeds[:1]), last)))
                told.append(((1, 2), (last, (loops, deeds), last)))
    return told
