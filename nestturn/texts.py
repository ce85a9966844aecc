"""Programs written as texts, and texts read as programs."""

from nestturn.errors import NoText
from nestturn.programs import program_of

LETTERS = ("a", "b", "c")
FIGURES = "0123456789"
ENOUGH_SIGNS = 99


def without_sign(word):
    return word[1:] if word.startswith("-") else word


def is_number(word):
    figures = without_sign(word)
    if figures == "" or not all([sign in FIGURES for sign in figures]):
        return False
    return figures[0] != "0" or word == "0"


# Python's int takes no text of some thousand figures; what is left of one is too great for any program all the same.
def number_read(word):
    if not is_number(word):
        raise NoText("a number is not written as one")
    return int(word[:ENOUGH_SIGNS])


def form_read(word):
    return tuple([number_read(part) for part in word.split(",")])


def cell_read(word):
    parts = word.split("@")
    if parts[0] not in LETTERS:
        raise NoText("a cell begins with one of the letters a, b and c")
    return (LETTERS.index(parts[0]), tuple([form_read(part) for part in parts[1:]]))


def refuse_other_words(words, between):
    if len(words) != 4 or words[2] != between:
        raise NoText("a loop, a deed or a read is written in four words, the third one its own")


def loop_read(words):
    refuse_other_words(words, "to")
    return (form_read(words[1]), form_read(words[3]))


def deed_read(words):
    refuse_other_words(words, "be")
    return cell_read(words[1]) + (form_read(words[3]), ())


def with_read(deed, words):
    refuse_other_words(words, "of")
    told = (number_read(words[1]),) + cell_read(words[3])
    return deed[:3] + (deed[3] + (told,),)


def with_line(nest, words):
    loops = nest[0]
    deeds = nest[1]
    if words[0] == "loop" and not deeds:
        return (loops + (loop_read(words),), deeds)
    if words[0] == "set":
        return (loops, deeds + (deed_read(words),))
    if words[0] == "and" and deeds:
        return (loops, deeds[:-1] + (with_read(deeds[-1], words),))
    raise NoText("a line is none of a nest, or out of its place")


def nests_read(lines):
    nests = []
    for words in lines:
        if words == ["nest"]:
            nests.append(((), ()))
        elif nests:
            nests[-1] = with_line(nests[-1], words)
        else:
            raise NoText("a nest is to begin behind the tables")
    return tuple(nests)


def widths_read(words):
    if words[0] != "tables":
        raise NoText("the tables are to stand in the first line")
    return tuple([number_read(word) for word in words[1:]])


# All lines are read ahead of asking whether they tell a program: NoText goes ahead of NoProgram.
def read(text):
    if not isinstance(text, str):
        raise NoText("what is to be read is no text")
    lines = [line.split(" ") for line in text.split("\n")]
    widths = widths_read(lines[0])
    nests = nests_read(lines[1:])
    return program_of(widths, nests)


def shown_form(form):
    return ",".join([str(number) for number in form])


def shown_cell(table, place):
    return "@".join([LETTERS[table]] + [shown_form(form) for form in place])


def shown_loop(loop):
    low = shown_form(loop[0])
    high = shown_form(loop[1])
    return f"loop {low} to {high}"


def shown_read(factor, table, place):
    cell = shown_cell(table, place)
    return f"and {factor} of {cell}"


def shown_deed(deed):
    cell = shown_cell(deed[0], deed[1])
    start = shown_form(deed[2])
    reads = [shown_read(factor, table, place) for factor, table, place in deed[3]]
    return [f"set {cell} be {start}"] + reads


def shown_nest(loops, deeds):
    lines = ["nest"] + [shown_loop(loop) for loop in loops]
    for deed in deeds:
        lines.extend(shown_deed(deed))
    return lines


def shown(program):
    lines = [" ".join(["tables"] + [str(width) for width in program[0]])]
    for loops, deeds in program[1]:
        lines.extend(shown_nest(loops, deeds))
    return "\n".join(lines)
