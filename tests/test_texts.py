import copy
import itertools
import unittest

from nestturn.errors import NoProgram, NoText, TooMany
from nestturn.programs import program_of
from nestturn.texts import read, shown
from refusing import Refusing
from samples import (
    NO_COUNTS, NOT_TUPLE, NOT_WHOLE, PROGRAM, SIXTY_COUNTS, TRIPLE, at, one_nest, plain_nest, some_programs,
)

PROGRAM_TEXT = """\
tables 1 2
nest
loop 0 to 3
set a@0,1 be 5,2
set b@0,1@1,-1 be 0,0
and 3 of a@0,1
and -1 of a@1,1
nest
loop 0 to 2
loop 0,1 to 2,0
set a@0,1,1 be 1,0,0
and 2 of a@0,1,1
and 1 of b@0,1,0@1,-1,0"""

TRIPLE_TEXT = """\
tables 1 2 1
nest
loop 0 to 2
set a@0,1 be 1,1
nest
loop 0 to 1
loop 1,0 to 3,0
set b@0,0,1@0,1,0 be 0,0,0
and 2 of a@-1,0,1
set c@0,0,1 be 0,0,0
and 1 of b@0,0,1@0,0,0
and 1 of c@-1,0,1
nest
loop 0 to 1
loop 0,0 to 1,0
loop 0,0,0 to 2,0,0
set a@0,0,0,1 be 0,0,0,0
and 1 of c@1,0,0,1
and -1 of a@1,0,0,-1"""

SMALL_TEXT = "tables 1\nnest\nloop 0 to 2\nset a@0,1 be 5,2\nand 3 of a@-1,1"
SMALL = ((1,), (((((0,), (2,)),), ((0, ((0, 1),), (5, 2), ((3, 0, ((-1, 1),)),)),)),))
SMALL_LINES = SMALL_TEXT.split("\n")
GREAT = "9" * 30

# Numbers that are not written as numbers.
NO_NUMBERS = [
    "", "-", "+1", "+0", "-0", "00", "01", "-01", "007", "--1", "1-", "1-1", "-+1", "1.0", "1e3", "1_0", "0x1", "x", "a",
    "1a", "one", "(1)", "1;", "'1'", "-00", "1@", "@1", "1:", "*", "/", "0/",
]


def with_line(number, line):
    """The small text with another line in the place of one of its own."""
    return "\n".join(SMALL_LINES[:number] + [line] + SMALL_LINES[number + 1:])


def lines_ahead(number, *lines):
    """The small text with some lines put ahead of one of its own."""
    return "\n".join(SMALL_LINES[:number] + list(lines) + SMALL_LINES[number:])


class Read(Refusing):
    def test_texts_that_are_written_right(self):
        self.assertEqual(read(SMALL_TEXT), SMALL)
        self.assertEqual(read(PROGRAM_TEXT), PROGRAM)
        self.assertEqual(read(TRIPLE_TEXT), TRIPLE)

    def test_the_least_text(self):
        self.assertEqual(read("tables 1\nnest\nloop 0 to 0\nset a@0,0 be 0,0"), one_nest(at(0), loops=(((0,), (0,)),)))

    def test_one_form_or_two_to_a_place(self):
        told = read("tables 2\nnest\nloop 0 to 1\nset a@0,1@-1,0 be 7,0\nand 2 of a@5,-6@99,-99")
        self.assertEqual(told, ((2,), (((((0,), (1,)),), ((0, ((0, 1), (-1, 0)), (7, 0), (
            (2, 0, ((5, -6), (99, -99))),)),)),)))

    def test_each_letter(self):
        told = read("tables 1 1 1\nnest\nloop 0 to 1\nset c@0,0 be 0,0\nand 1 of a@1,0\nand 1 of b@2,0\nand 1 of c@3,0")
        deed = (2, ((0, 0),), (0, 0), ((1, 0, ((1, 0),)), (1, 1, ((2, 0),)), (1, 2, ((3, 0),))))
        self.assertEqual(told, one_nest(deed, widths=(1, 1, 1)))

    def test_the_greatest_numbers(self):
        text = f"tables 1\nnest\nloop -9 to 9\nloop 9,2 to -9,-2\nset a@99,-99,0 be {GREAT},-{GREAT},0\nand -{GREAT} of a@0,0,0"
        great = int(GREAT)
        loops = (((-9,), (9,)), ((9, 2), (-9, -2)))
        deed = (0, ((99, -99, 0),), (great, -great, 0), ((-great, 0, ((0, 0, 0),)),))
        self.assertEqual(read(text), program_of((1,), ((loops, (deed,)),)))
        self.assertEqual(shown(read(text)), text)

    def test_the_most_of_each(self):
        deed = "\nset a@0,0,0,0 be 0,0,0,0" + "\nand 1 of b@0,0,0,0@0,0,0,0" * 3
        nest = "\nnest\nloop 0 to 1\nloop 0,0 to 1,0\nloop 0,0,0 to 5,0,0" + deed * 4
        told = read("tables 1 2 2" + nest * 3)
        self.assertEqual(told[0], (1, 2, 2))
        self.assertEqual([(len(loops), len(deeds)) for loops, deeds in told[1]], [(3, 4)] * 3)
        self.assertEqual([len(deed[3]) for deed in told[1][2][1]], [3] * 4)
        self.assertEqual(shown(told), "tables 1 2 2" + nest * 3)

    def test_kinds(self):
        def kinds(thing):
            return {type(thing)}.union(*[kinds(part) for part in thing]) if isinstance(thing, tuple) else {type(thing)}
        self.assertEqual(kinds(read(TRIPLE_TEXT)), {tuple, int})


class Shown(unittest.TestCase):
    def test_by_hand(self):
        self.assertEqual(shown(SMALL), SMALL_TEXT)
        self.assertEqual(shown(PROGRAM), PROGRAM_TEXT)
        self.assertEqual(shown(TRIPLE), TRIPLE_TEXT)

    def test_what_is_shown_is_read_as_the_same_program(self):
        for program in some_programs() + [PROGRAM, TRIPLE, one_nest(at(0, 1, 2, 3), at(-99, start=-7))]:
            text = shown(program)
            self.assertEqual(read(text), program)
            self.assertEqual(shown(read(text)), text)

    def test_programs_of_many_shapes(self):
        widths = [told for many in (1, 2, 3) for told in itertools.product((1, 2), repeat=many)]
        for told, deeds in itertools.product(widths, range(1, 5)):
            nests = []
            for d in range(1, 1 + len(told)):
                loops = tuple(((k - 9,) + (-2,) * k, (k - 8,) + (k - 2,) * k) for k in range(d))
                place = ((5, -99, 0, 7)[:d + 1], (-1, 0, 99, 1)[:d + 1])
                reads = tuple((10 ** table - 11, table, place[:told[table]]) for table in range(len(told)))
                nests.append((loops, tuple(
                    (s % len(told), place[:told[s % len(told)]], (-s, 10 ** s, 1, 0)[:d + 1], reads[s:])
                    for s in range(deeds))))
            program = (told, tuple(nests))
            self.assertEqual(read(shown(program)), program)

    def test_a_text(self):
        self.assertIs(type(shown(PROGRAM)), str)


class NoTexts(Refusing):
    def test_things_that_are_no_text(self):
        for thing in NOT_TUPLE + NOT_WHOLE + [(), 5, SMALL, SMALL_LINES, tuple(SMALL_LINES), SMALL_TEXT.encode(), [SMALL_TEXT]]:
            self.refused(NoText, read, thing)

    def test_no_words(self):
        for text in ("", " ", "\n", "\n\n", "  ", " \n "):
            self.refused(NoText, read, text)

    def test_other_first_words(self):
        for number in range(1, 5):
            words = SMALL_LINES[number].split(" ")[1:]
            for word in ("", "table", "Tables", "NEST", "Loop", "sets", "And", "or", "#", "be", "0", "a@0,1", "nests"):
                self.refused(NoText, read, with_line(number, " ".join([word] + words)))
        for word in ("", "table", "Tables", "TABLES", "width", "nest", "1", "tables:", "tables1"):
            self.refused(NoText, read, with_line(0, word + " 1"))

    def test_other_words_within(self):
        for line in ("loop 0 too 2", "loop 0 be 2", "loop 0 To 2", "loop 0 0 2", "loop to 0 2", "loop 0 2 to",
                     "loop 0  2", "loop 0,to,2 to 2"):
            self.refused(NoText, read, with_line(2, line))
        for line in ("set a@0,1 is 5,2", "set a@0,1 Be 5,2", "set a@0,1 to 5,2", "set be a@0,1 5,2", "set 5,2 be a@0,1"):
            self.refused(NoText, read, with_line(3, line))
        for line in ("and 3 times a@-1,1", "and 3 Of a@-1,1", "and 3 be a@-1,1", "and a@-1,1 of 3", "and of 3 a@-1,1"):
            self.refused(NoText, read, with_line(4, line))

    def test_too_few_and_too_many_words(self):
        for number in range(1, 5):
            words = SMALL_LINES[number].split(" ")
            for fewer in range(1, len(words)):
                self.refused(NoText, read, with_line(number, " ".join(words[:fewer])))
                self.refused(NoText, read, with_line(number, " ".join(words[:fewer] + words[fewer + 1:])))
            for more in ("0", "1", words[-1], "to", "be", "of", "of a@0,1", "nest", "0 0"):
                self.refused(NoText, read, with_line(number, " ".join(words + [more])))

    def test_blanks(self):
        for number in range(5):
            line = SMALL_LINES[number]
            wrong = [" " + line, line + " ", "  " + line, line + "  "]
            wrong += [line[:at] + " " + line[at:] for at in range(len(line)) if line[at] == " "]
            wrong += [line.replace(",", ", "), line.replace(",", " ,"), line.replace("@", " @"), line.replace("@", "@ ")]
            wrong += [line.replace("-", "- ")]
            for told in wrong:
                if told != line:
                    self.refused(NoText, read, with_line(number, told))

    def test_blanks_between_words_alone(self):
        for number in range(5):
            line = SMALL_LINES[number]
            for between in ("", "_", ",", "\t", "\n"):
                if " " in line:
                    self.refused(NoText, read, with_line(number, line.replace(" ", between)))

    def test_empty_lines_and_a_line_feed_behind_the_last(self):
        for number in range(6):
            self.refused(NoText, read, lines_ahead(number, ""))
        self.refused(NoText, read, SMALL_TEXT + "\n")
        self.refused(NoText, read, "\n" + SMALL_TEXT)
        self.refused(NoText, read, SMALL_TEXT + "\n\n")
        self.refused(NoText, read, SMALL_TEXT + "\n ")

    def test_numbers_written_otherwise(self):
        for number in NO_NUMBERS:
            self.refused(NoText, read, with_line(0, f"tables {number}"))
            self.refused(NoText, read, with_line(0, f"tables 1 {number}"))
            self.refused(NoText, read, with_line(0, f"tables {number} 1"))
            self.refused(NoText, read, with_line(2, f"loop {number} to 2"))
            self.refused(NoText, read, with_line(2, f"loop 0 to {number}"))
            self.refused(NoText, read, with_line(3, f"set a@0,{number} be 5,2"))
            self.refused(NoText, read, with_line(3, f"set a@0,1 be {number},2"))
            self.refused(NoText, read, with_line(3, f"set a@0,1 be 5,{number}"))
            self.refused(NoText, read, with_line(4, f"and {number} of a@-1,1"))
            self.refused(NoText, read, with_line(3, f"set a@{number},1 be 5,2"))
            self.refused(NoText, read, with_line(4, f"and 3 of a@{number},1"))

    def test_numbers_that_are_no_forms(self):
        for number in ("1,2", "1,", ",1", "a", "a@1"):
            self.refused(NoText, read, with_line(0, f"tables {number}"))
            self.refused(NoText, read, with_line(4, f"and {number} of a@-1,1"))

    def test_numbers_that_lack_between_commas(self):
        for form in ("", ",", ",1", "0,", "0,,1", ",0,1", "0,1,", ",,", "0;1", "0.1"):
            self.refused(NoText, read, with_line(2, f"loop {form} to 2"))
            self.refused(NoText, read, with_line(2, f"loop 0 to {form}"))
            self.refused(NoText, read, with_line(3, f"set a@{form} be 5,2"))
            self.refused(NoText, read, with_line(3, f"set a@0,1 be {form}"))
            self.refused(NoText, read, with_line(4, f"and 3 of a@{form}"))
            self.refused(NoText, read, with_line(4, f"and 3 of a@0,1@{form}"))

    def test_cells_written_otherwise(self):
        cells = (
            "d@0,1", "e@0,1", "z@0,1", "A@0,1", "B@0,1", "C@0,1", "aa@0,1", "ab@0,1", "abc@0,1", "bc@0,1", "0@0,1",
            "@0,1", "@@0,1", "0,1", "a@", "a@@", "a@0,1@", "a@@0,1", "@", "", "a0,1", "a0@0,1", "-a@0,1", "a,0@1", "`@0,1",
            "a@a", "a@0,1@a", "a@0,1a", "a@b@0,1", "a[0,1]", "*@0,1", "d", "A", "aa",
        )
        for cell in cells:
            self.refused(NoText, read, with_line(3, f"set {cell} be 5,2"))
            self.refused(NoText, read, with_line(4, f"and 3 of {cell}"))

    def test_lines_out_of_their_place(self):
        tables, nest, loop, deed, told_read = SMALL_LINES
        for lines in (
            # No tables line, one behind others, two of them.
            [nest, loop, deed, told_read], [nest, tables, loop, deed], [nest, loop, deed, told_read, tables],
            [tables, tables, nest, loop, deed], [tables, nest, loop, deed, tables], [tables, nest, tables, loop, deed],
            [tables, nest, loop, deed, told_read, "tables 2"], [tables, "tables"],
            # A loop, a deed or a read ahead of the first nest.
            [tables, loop, nest, loop, deed], [tables, deed, nest, loop, deed], [tables, told_read, nest, loop, deed],
            [tables, loop], [tables, deed], [tables, told_read], [tables, loop, deed, told_read], [loop], [deed],
            [told_read], [nest], [loop, tables, nest, loop, deed],
            # A loop behind a deed, or behind a read.
            [tables, nest, deed, loop], [tables, nest, loop, deed, loop], [tables, nest, loop, deed, loop, deed],
            [tables, nest, loop, deed, told_read, loop], [tables, nest, loop, deed, nest, deed, loop],
            # A read ahead of the first deed of its nest.
            [tables, nest, told_read], [tables, nest, loop, told_read], [tables, nest, loop, told_read, deed],
            [tables, nest, told_read, loop, deed], [tables, nest, loop, deed, nest, told_read],
            [tables, nest, loop, deed, nest, loop, told_read], [tables, nest, loop, deed, nest, loop, told_read, deed],
        ):
            self.refused(NoText, read, "\n".join(lines))

    def test_each_nest_begins_anew(self):
        tables, nest, loop, deed, told_read = SMALL_LINES
        text = "\n".join([tables, nest, loop, deed, told_read, deed, nest, loop, deed, nest, loop, deed, told_read, told_read])
        told = read(text)
        loops = (((0,), (2,)),)
        without = (0, ((0, 1),), (5, 2), ())
        one = (0, ((0, 1),), (5, 2), ((3, 0, ((-1, 1),)),))
        two = (0, ((0, 1),), (5, 2), ((3, 0, ((-1, 1),)),) * 2)
        self.assertEqual(told, ((1,), ((loops, (one, without)), (loops, (without,)), (loops, (two,)))))


class NoPrograms(Refusing):
    def test_widths(self):
        for line in ("tables", "tables 1 1 1 1", "tables 0", "tables 3", "tables -1", "tables 1 0", "tables 3 1",
                     "tables 1 1 3", "tables 12", "tables 1 2 1 2 1", "tables -2", "tables " + "9" * 60):
            self.refused(NoProgram, read, with_line(0, line))

    def test_nests(self):
        tables, nest, loop, deed, told_read = SMALL_LINES
        self.refused(NoProgram, read, tables)
        for many in (4, 5):
            self.refused(NoProgram, read, "\n".join([tables] + [nest, loop, deed] * many))
        self.assertEqual(len(read("\n".join([tables] + [nest, loop, deed] * 3))[1]), 3)

    def test_loops(self):
        tables, nest, loop, deed, told_read = SMALL_LINES
        self.refused(NoProgram, read, "\n".join([tables, nest, deed]))
        self.refused(NoProgram, read, "\n".join([tables, nest, "set a@0 be 0"]))
        self.refused(NoProgram, read, "\n".join([tables, nest, loop, deed, nest, deed]))
        four = ["loop 0 to 1", "loop 0,0 to 1,0", "loop 0,0,0 to 1,0,0", "loop 0,0,0,0 to 1,0,0,0"]
        self.refused(NoProgram, read, "\n".join([tables, nest] + four + ["set a@0,0,0,0,0 be 0,0,0,0,0"]))

    def test_deeds(self):
        tables, nest, loop, deed, told_read = SMALL_LINES
        for lines in ([nest], [nest, loop], [nest, loop, deed, nest], [nest, nest, loop, deed], [nest, loop, nest, loop, deed],
                      [nest, loop] + [deed] * 5):
            self.refused(NoProgram, read, "\n".join([tables] + lines))
        self.assertEqual(len(read("\n".join([tables, nest, loop] + [deed] * 4))[1][0][1]), 4)

    def test_reads(self):
        self.refused(NoProgram, read, SMALL_TEXT + ("\n" + SMALL_LINES[4]) * 3)
        self.assertEqual(len(read(SMALL_TEXT + ("\n" + SMALL_LINES[4]) * 2)[1][0][1][0][3]), 3)

    def test_numbers_out_of_their_range(self):
        for line in ("loop 10 to 2", "loop -10 to 2", "loop 0 to 10", "loop 0 to -10", "loop 0 to " + "9" * 60):
            self.refused(NoProgram, read, with_line(2, line))
        for line in ("loop 0,3 to 0,0", "loop 0,0 to 0,-3", "loop 10,0 to 0,0", "loop 0,0 to -10,0"):
            lines = [SMALL_LINES[0], "nest", "loop 0 to 0", line, "set a@0,0,0 be 0,0,0"]
            self.refused(NoProgram, read, "\n".join(lines))
        for line in ("set a@100,1 be 5,2", "set a@0,-100 be 5,2", "set a@-100,0 be 5,2", "set a@0,100 be 5,2",
                     f"set a@0,1 be 1{GREAT},2", f"set a@0,1 be 5,-1{GREAT}", f"set a@{GREAT},0 be 5,2"):
            self.refused(NoProgram, read, with_line(3, line))
        for line in (f"and 1{GREAT} of a@-1,1", f"and -1{GREAT} of a@-1,1", "and 3 of a@100,1", "and 3 of a@-1,-100"):
            self.refused(NoProgram, read, with_line(4, line))

    def test_numbers_of_very_many_figures(self):
        for many in (61, 100, 4300, 4301, 5500):
            for sign in ("", "-"):
                self.refused(NoProgram, read, with_line(4, "and " + sign + "1" + "0" * (many - 1) + " of a@-1,1"))
                self.refused(NoText, read, with_line(4, "and " + sign + "0" + "1" * (many - 1) + " of a@-1,1"))
                self.refused(NoText, read, with_line(4, "and " + sign + "1" * (many - 1) + "x of a@-1,1"))

    def test_forms_with_too_few_or_too_many_numbers(self):
        for line in ("loop 0,0 to 2", "loop 0 to 2,0", "loop 0,0 to 2,0"):
            self.refused(NoProgram, read, with_line(2, line))
        for line in ("set a@0 be 5,2", "set a@0,1,0 be 5,2", "set a@0,1 be 5", "set a@0,1 be 5,2,0",
                     "set a@0,1,0,0,0,0 be 5,2"):
            self.refused(NoProgram, read, with_line(3, line))
        for line in ("and 3 of a@-1", "and 3 of a@-1,1,0"):
            self.refused(NoProgram, read, with_line(4, line))
        for line in ("loop 0 to 1,0", "loop 0,0 to 1", "loop 0,0,0 to 1,0"):
            lines = [SMALL_LINES[0], "nest", "loop 0 to 1", line, "set a@0,0,0 be 0,0,0"]
            self.refused(NoProgram, read, "\n".join(lines))

    def test_places_with_another_count_than_the_width(self):
        for line in ("set a be 5,2", "set a@0,1@0,1 be 5,2", "set a@0,1@0,1@0,1 be 5,2"):
            self.refused(NoProgram, read, with_line(3, line))
        for line in ("and 3 of a", "and 3 of a@-1,1@-1,1"):
            self.refused(NoProgram, read, with_line(4, line))
        wide = SMALL_TEXT.replace("tables 1", "tables 2")
        self.refused(NoProgram, read, wide)
        self.refused(NoProgram, read, wide.replace("set a@0,1", "set a@0,1@0,0"))
        self.refused(NoProgram, read, wide.replace("of a@-1,1", "of a@0,1@0,0"))
        self.refused(NoProgram, read, PROGRAM_TEXT.replace("tables 1 2", "tables 2 1"))

    def test_tables_that_are_not_there(self):
        for letter in "bc":
            self.refused(NoProgram, read, with_line(3, f"set {letter}@0,1 be 5,2"))
            self.refused(NoProgram, read, with_line(4, f"and 3 of {letter}@-1,1"))
        self.refused(NoProgram, read, TRIPLE_TEXT.replace("tables 1 2 1", "tables 1 2"))
        self.refused(NoProgram, read, with_line(3, "set b be 5,2"))


class TooManySteps(Refusing):
    def test_more_than_sixty(self):
        for loops in ("loop 0 to 9\nloop 0,0 to 7,0", "loop 0 to 9\nloop -9,0 to 9,0\nloop -9,-2,-2 to 9,2,2"):
            d = loops.count("\n") + 1
            form = ",".join(["0"] * (d + 1))
            self.refused(TooMany, read, f"tables 1\nnest\n{loops}\nset a@{form} be {form}")

    def test_sixty_and_sixty_one(self):
        program = program_of((1,), (plain_nest(SIXTY_COUNTS),))
        text = shown(program)
        self.assertEqual(read(text), program)
        self.refused(TooMany, read, text + "\nnest\nloop 0 to 1\nset a@0,0 be 0,0")
        self.assertEqual(len(read(text + "\nnest\nloop 1 to 1\nset a@0,0 be 0,0")[1]), 2)
        self.refused(TooMany, read, text + "\nset a@0,0,0,0 be 0,0,0,0")


class Ahead(Refusing):
    def test_what_is_no_text_goes_ahead_of_what_is_no_program(self):
        self.refused(NoText, read, with_line(0, "tables 7") + "\n")
        self.refused(NoText, read, with_line(0, "tables") + "\nand 01 of a@0,1")
        self.refused(NoText, read, with_line(0, "tables 1 1 1 1") + "\nloop 0 to 1")
        self.refused(NoText, read, with_line(2, "loop 10 to 2") + "\nand 3 off a@0,1")
        self.refused(NoText, read, with_line(3, "set b@0,1 be 5,2") + "\nset d@0,1 be 5,2")
        self.refused(NoText, read, "tables 1" + "\nnest" * 4 + "\nand 1 of a@0,1")
        self.refused(NoText, read, SMALL_TEXT + "\nand 1 of a@100,1" * 9 + "\nset a@0,1 be 5,+2")
        self.refused(NoText, read, with_line(3, "set b be 5") + "\n ")

    def test_what_is_no_program_goes_ahead_of_too_many(self):
        many = "\nnest\nloop 0 to 9\nloop -9,0 to 9,0\nset a@0,0,0 be 0,0,0"
        self.refused(TooMany, read, "tables 1" + many)
        self.refused(NoProgram, read, "tables 3" + many)
        self.refused(NoProgram, read, "tables 1" + many + "\nand 1 of a@0,0,100")
        self.refused(NoProgram, read, "tables 1" + many + "\nset b@0,0,0 be 0,0,0")
        self.refused(NoProgram, read, "tables 1" + many * 4)
        self.refused(NoProgram, read, "tables 1" + many + "\nnest")

    def test_what_is_no_text_goes_ahead_of_too_many(self):
        many = "tables 1\nnest\nloop 0 to 9\nloop -9,0 to 9,0\nset a@0,0,0 be 0,0,0"
        self.refused(NoText, read, many + "\n")
        self.refused(NoText, read, many + "\nand -0 of a@0,0,0")


class NothingKept(unittest.TestCase):
    def test_what_is_handed_in_stays_and_equal_things_are_told_again(self):
        program = copy.deepcopy(TRIPLE)
        self.assertEqual([shown(program), shown(program)], [TRIPLE_TEXT] * 2)
        self.assertEqual([read(TRIPLE_TEXT), read(TRIPLE_TEXT)], [TRIPLE] * 2)
        self.assertEqual(program, TRIPLE)

    def test_a_refusal_changes_no_later_answer(self):
        for text in (SMALL_TEXT + "\n", with_line(3, "set b@0,1 be 5,2")):
            with self.assertRaises(ValueError):
                read(text)
        self.assertEqual(read(SMALL_TEXT), SMALL)

    def test_a_program_without_steps(self):
        program = program_of((2,), ((NO_COUNTS, ((0, ((0, 0), (1, 1)), (0, 0), ()),)),))
        self.assertEqual(shown(program), "tables 2\nnest\nloop 3 to 3\nset a@0,0@1,1 be 0,0")
        self.assertEqual(read(shown(program)), program)


if __name__ == "__main__":
    unittest.main()
