import itertools
import unittest

from nestturn.alike import compared
from nestturn.best import best
from nestturn.desk import Desk
from nestturn.errors import NoProgram, NoRow, NoText, NoTurn, Tied, TooMany, TurnError
from nestturn.keeping import broken
from nestturn.plans import order_of, plain_plan
from nestturn.programs import program_of
from nestturn.rounds import barring, rounds
from nestturn.runs import plain
from nestturn.texts import read, shown
from nestturn.touch import touches
from nestturn.turns import backward, blocked, cut, exchanged, moved, slanted
from refusing import Refusing
from samples import NOT_TUPLE, NOT_WHOLE, PROGRAM, SIXTY_COUNTS, TRIPLE, plain_nest, some_programs

# a[i][j] = a[i - 1][j + 1], i from 0 to 1, j from 0 to 2: the step 3 touches 1, and 4 touches 2.
LEANING = "tables 2\nnest\nloop 0 to 2\nloop 0,0 to 3,0\nset a@0,1,0@0,0,1 be 0,0,0\nand 1 of a@-1,1,0@1,0,1"
EMPTY = "tables 1\nnest\nloop 3 to 3\nset a@0,0 be 0,0"
# Two steps that set one cell to one number.
SAME = "tables 1\nnest\nloop 0 to 2\nset a@0,0 be 1,0"
# a[i] = a[i - 1], i from 0 to 3.
CHAIN = "tables 1\nnest\nloop 0 to 4\nset a@0,1 be 0,0\nand 1 of a@-1,1"
# Two nests of one and of three loops that don't touch.
APART = (
    "tables 1 1\nnest\nloop 0 to 2\nset a@0,1 be 0,0\n"
    "nest\nloop 0 to 1\nloop 0,0 to 1,0\nloop 0,0,0 to 2,0,0\nset b@0,0,0,5 be 0,0,0,0")
TEXTS = [LEANING, EMPTY, SAME, CHAIN, APART, shown(PROGRAM), shown(TRIPLE)]

# Each row by its first word, with how many numbers stand behind it.
ROWS = {
    "show": 0, "steps": 0, "touch": 2, "exchange": 3, "backward": 2, "slant": 4, "move": 4, "block": 3, "cut": 1,
    "plain": 0, "order": 0, "keeps": 0, "ends": 0, "free": 1, "rounds": 0, "best": 1,
}
NO_NUMBERS = [
    "", "-", "+1", "+0", "-0", "00", "01", "-01", "007", "--1", "1-", "1.0", "1e3", "1_0", "0x1", "x", "a", "one", "1,",
    ",1", "1,0", "0;", "0\n", "\n0", "0\t", "1" * 61, "-" + "1" * 61, "1" + "0" * 60, "9" * 4301, "0" * 61,
]


def said(desk, *rows):
    return [desk.say(row) for row in rows]


def tell_or_refuse(tell, *asked):
    try:
        return tell(*asked)
    except Tied as refusal:
        return ("Tied", refusal.pair)
    except TurnError as refusal:
        return type(refusal).__name__


def all_told(desk):
    """What the desk answers to each row that tells of its plan: together they show whether it has changed."""
    rows = ["show", "order", "keeps", "ends"] + [f"free {a}" for a in range(10)]
    return [tell_or_refuse(desk.say, row) for row in rows]


class Made(Refusing):
    def test_of_a_text(self):
        for text in TEXTS:
            self.assertEqual(Desk(text).say("show"), text)

    def test_refuses_as_read_does(self):
        for text in ("", "tables 1\n", LEANING + "\n", LEANING.replace("be", "to"), LEANING.replace("a@", "d@")):
            self.refused(NoText, Desk, text)
        for thing in NOT_TUPLE + NOT_WHOLE + [PROGRAM, [LEANING], LEANING.encode()]:
            self.refused(NoText, Desk, thing)
        for text in ("tables 1", "tables", "tables 1\nnest", LEANING.replace("tables 2", "tables 1"),
                     LEANING.replace("set a", "set b"), LEANING.replace("loop 0 to 2", "loop 0 to 20")):
            self.refused(NoProgram, Desk, text)
        self.refused(TooMany, Desk, LEANING.replace("to 2", "to 9").replace("3,0", "7,0"))
        self.refused(NoText, Desk, LEANING.replace("tables 2", "tables 1") + "\n")

    def test_the_plan_is_the_plain_one_at_first(self):
        for text in TEXTS:
            program = read(text)
            desk = Desk(text)
            self.assertEqual(desk.say("order"), " ".join(str(step) for step in plain(program)))
            self.assertEqual(all_told(desk)[4:9], ["yes" if pair is None else "no {} {}".format(*pair) for pair in (
                barring(program, plain_plan(program), a) for a in range(5))])


class Telling(Refusing):
    def test_show(self):
        desk = Desk(LEANING)
        self.assertEqual(desk.say("show"), LEANING)
        self.assertEqual(said(desk, "exchange 0 1 2", "show"), ["ok", LEANING])

    def test_steps(self):
        self.assertEqual([Desk(text).say("steps") for text in TEXTS], ["6", "0", "2", "4", "4", "9", "8"])
        self.assertEqual(Desk(shown(program_of((1,), (plain_nest(SIXTY_COUNTS),)))).say("steps"), "60")

    def test_touch(self):
        desk = Desk(LEANING)
        for i, j in itertools.product(range(6), repeat=2):
            wanted = "yes" if (min(i, j), max(i, j)) in ((1, 3), (2, 4)) else "no"
            self.assertEqual(desk.say(f"touch {i} {j}"), wanted)
        self.assertEqual(Desk(SAME).say("touch 0 0"), "no")
        self.assertEqual(Desk(SAME).say("touch 1 0"), "yes")

    def test_touch_of_steps_that_are_not_there(self):
        for row in ("touch 6 0", "touch 0 6", "touch -1 0", "touch 0 -1", "touch 6 6", "touch 99 1", "touch -6 1",
                    "touch 0 " + "9" * 60, "touch -" + "9" * 60 + " 0"):
            self.refused(NoRow, Desk(LEANING).say, row)
        self.refused(NoRow, Desk(EMPTY).say, "touch 0 0")

    def test_order(self):
        desk = Desk(LEANING)
        self.assertEqual(said(desk, "order", "exchange 0 1 2", "order"), ["0 1 2 3 4 5", "ok", "0 3 1 4 2 5"])
        self.assertEqual(Desk(SAME).say("order"), "0 1")
        self.assertEqual(Desk("tables 1\nnest\nloop 0 to 1\nset a@0,0 be 1,0").say("order"), "0")
        self.assertEqual(Desk(EMPTY).say("order"), "")

    def test_keeps(self):
        desk = Desk(LEANING)
        self.assertEqual(said(desk, "keeps", "exchange 0 1 2", "keeps"), ["yes", "ok", "no 1 3"])
        # By j backward, then i: 2 5 1 4 0 3.
        self.assertEqual(said(desk, "backward 0 1", "order", "keeps"), ["ok", "2 5 1 4 0 3", "yes"])
        self.assertEqual(Desk(EMPTY).say("keeps"), "yes")
        self.assertEqual(said(Desk(CHAIN), "backward 0 1", "keeps"), ["ok", "no 0 1"])

    def test_ends(self):
        desk = Desk(LEANING)
        self.assertEqual(said(desk, "ends", "exchange 0 1 2", "ends"), ["alike", "ok", "unlike"])
        self.assertEqual(said(desk, "backward 0 1", "ends"), ["ok", "alike"])
        self.assertEqual(Desk(EMPTY).say("ends"), "alike")

    def test_ends_may_be_alike_by_an_order_that_does_not_keep(self):
        self.assertEqual(said(Desk(SAME), "backward 0 1", "keeps", "ends"), ["ok", "no 0 1", "alike"])

    def test_free(self):
        desk = Desk(LEANING)
        self.assertEqual(said(desk, "free 0", "free 1", "free 2", "free 3", "free 4"), ["yes", "no 1 3", "yes", "yes", "yes"])
        self.assertEqual(said(desk, "exchange 0 1 2", "free 1", "free 2"), ["ok", "no 1 3", "yes"])
        self.assertEqual(said(desk, "cut 1", "free 1", "free 3"), ["ok", "no 1 3", "yes"])
        self.assertEqual(said(desk, "slant 0 1 2 5", "free 1"), ["ok", "no 1 3"])
        self.assertEqual(said(Desk(EMPTY), "free 0", "free 4"), ["yes", "yes"])
        self.assertEqual(said(Desk(SAME), "free 0", "free 1", "free 2"), ["yes", "no 0 1", "yes"])

    def test_free_of_equal_keys_is_told_all_the_same(self):
        desk = Desk(CHAIN)
        self.assertEqual(said(desk, "cut 1", "free 0", "free 1"), ["ok", "yes", "yes"])
        self.refused(Tied, desk.say, "order")

    def test_rounds(self):
        self.assertEqual(Desk(LEANING).say("rounds"), "0 1 2 5; 3 4")
        self.assertEqual(Desk(SAME).say("rounds"), "0; 1")
        self.assertEqual(Desk(CHAIN).say("rounds"), "0; 1; 2; 3")
        self.assertEqual(Desk(APART).say("rounds"), "0 1 2 3")
        self.assertEqual(Desk(shown(PROGRAM)).say("rounds"), "0; 1; 2 6; 3; 4 7; 5; 8")
        self.assertEqual(Desk(EMPTY).say("rounds"), "")

    def test_rounds_hang_on_no_plan(self):
        self.assertEqual(said(Desk(CHAIN), "backward 0 1", "rounds", "cut 1", "rounds"), ["ok", "0; 1; 2; 3"] * 2)

    def test_best(self):
        self.assertEqual(Desk(LEANING).say("best 0"), "7 0 1 1 1")
        self.assertEqual(Desk(SAME).say("best 0"), "0 0 1")
        self.assertEqual(Desk(CHAIN).say("best 0"), "3 0 1")
        self.assertEqual(Desk(EMPTY).say("best 0"), "0 0 1")
        # a0 a1 b0 b5.
        self.assertEqual(said(Desk(APART), "best 0", "best 1"), ["106 0 1", "106 0 1 2 1 1 1"])
        # a[i - 10 j], i 0 and 1, j from 0 to 2: least far by j, then i backward.
        slanting = "tables 1\nnest\nloop 0 to 2\nloop 0,0 to 3,0\nset a@0,1,-10 be 0,0,0"
        self.assertEqual(Desk(slanting).say("best 0"), "21 1 0 1 -1")

    def test_best_hangs_on_no_plan_and_leaves_it(self):
        desk = Desk(LEANING)
        self.assertEqual(said(desk, "exchange 0 1 2", "best 0", "order"), ["ok", "7 0 1 1 1", "0 3 1 4 2 5"])

    def test_best_of_nests_that_are_not_there(self):
        for nest in ("1", "-1", "3", "99", "9" * 60, "-" + "9" * 60):
            self.refused(NoRow, Desk(LEANING).say, "best " + nest)
        self.refused(NoRow, Desk(APART).say, "best 2")
        self.refused(NoRow, Desk(shown(TRIPLE)).say, "best 3")

    def test_each_answer_is_a_text(self):
        desk = Desk(LEANING)
        for row in ("show", "steps", "touch 0 1", "exchange 0 1 1", "backward 0 1", "slant 0 1 2 0", "move 0 0 1 0",
                    "block 0 1 2", "cut 1", "plain", "order", "keeps", "ends", "free 0", "rounds", "best 0"):
            self.assertIs(type(desk.say(row)), str, row)


class Turning(Refusing):
    def test_exchange(self):
        desk = Desk(LEANING)
        self.assertEqual(said(desk, "exchange 0 2 1", "order"), ["ok", "0 3 1 4 2 5"])
        self.assertEqual(said(desk, "exchange 0 1 1", "order"), ["ok", "0 3 1 4 2 5"])
        # The nest's number behind the first count, in one nest and then in both: these are mixed by their first counts.
        desk = Desk(APART)
        self.assertEqual(desk.say("exchange 0 0 1"), "ok")
        self.assertEqual(self.refused(Tied, desk.say, "order").pair, (1, 2))
        self.assertEqual(said(desk, "exchange 1 0 1", "order"), ["ok", "0 2 3 1"])

    def test_backward(self):
        self.assertEqual(said(Desk(LEANING), "backward 0 2", "order"), ["ok", "2 1 0 5 4 3"])
        self.assertEqual(said(Desk(LEANING), "backward 0 1", "order"), ["ok", "3 4 5 0 1 2"])
        self.assertEqual(said(Desk(APART), "backward 1 0", "order"), ["ok", "2 3 0 1"])
        self.assertEqual(said(Desk(APART), "backward 1 3", "order"), ["ok", "0 1 3 2"])

    def test_slant(self):
        # j and 3 i, then i: 0 1 2 3 4 5.
        self.assertEqual(said(Desk(LEANING), "slant 0 2 1 3", "exchange 0 1 2", "order"), ["ok", "ok", "0 1 2 3 4 5"])
        # j less 3 i, then i: -3 -2 -1 0 1 2.
        self.assertEqual(said(Desk(LEANING), "slant 0 2 1 -3", "exchange 0 1 2", "order"), ["ok", "ok", "3 4 5 0 1 2"])
        # i and j, then j: 0, then 3 and 1, then 4 and 2, then 5.
        self.assertEqual(said(Desk(LEANING), "slant 0 1 2 1", "order"), ["ok", "0 3 1 4 2 5"])

    def test_slant_by_great_numbers(self):
        for number in ("9" * 60, "1" + "0" * 59):
            self.assertEqual(said(Desk(LEANING), f"slant 0 1 2 {number}", "order"), ["ok", "0 3 1 4 2 5"])
            self.assertEqual(said(Desk(LEANING), f"slant 0 1 2 -{number}", "order"), ["ok", "2 5 1 4 0 3"])

    def test_move(self):
        desk = Desk(shown(PROGRAM))
        # The second deed of the first nest goes by its count and 1.
        self.assertEqual(said(desk, "move 0 1 1 1", "order", "keeps"), ["ok", "0 2 1 4 3 5 6 7 8", "no 1 2"])
        self.assertEqual(said(desk, "move 0 1 1 -2", "order", "keeps"), ["ok", "1 0 3 2 5 4 6 7 8", "no 0 1"])
        self.assertEqual(said(desk, "plain", "move 1 0 0 -7", "order"), ["ok", "ok", "6 7 8 0 1 2 3 4 5"])
        self.assertEqual(said(desk, "move 1 0 0 " + "9" * 60, "order"), ["ok", "0 1 2 3 4 5 6 7 8"])

    def test_block(self):
        desk = Desk(LEANING)
        self.assertEqual(said(desk, "block 0 2 2", "order", "free 5"), ["ok", "0 1 2 3 4 5", "yes"])
        # By j // 2, then i, then j.
        self.assertEqual(said(desk, "exchange 0 1 2", "order", "keeps"), ["ok", "0 1 3 4 2 5", "no 2 4"])

    def test_block_puts_a_line_into_the_other_nests(self):
        desk = Desk(APART)
        # All lines are moved on by one, with 0 in the first nest: its steps go ahead.
        self.assertEqual(said(desk, "block 1 0 1", "order", "free 5"), ["ok", "0 1 2 3", "yes"])
        self.assertEqual(said(desk, "cut 1", "order"), ["ok", "0 1 2 3"])
        # Without the nests' numbers the steps 0 and 2 have nothing but 0.
        desk = Desk(APART)
        self.assertEqual(said(desk, "block 0 0 1", "order", "cut 1"), ["ok", "0 1 2 3", "ok"])
        self.assertEqual(self.refused(Tied, desk.say, "order").pair, (0, 2))

    def test_sizes(self):
        for size in (1, 2, 50, 98, 99):
            self.assertEqual(said(Desk(LEANING), f"block 0 2 {size}", "keeps"), ["ok", "yes"])
        for size in ("0", "100", "-1", "-99", "101", "9" * 60, "-" + "9" * 60):
            desk = Desk(LEANING)
            self.refused(NoTurn, desk.say, f"block 0 2 {size}")
            self.assertEqual(desk.say("order"), "0 1 2 3 4 5")
            self.refused(NoTurn, desk.say, "free 5")

    def test_cut(self):
        desk = Desk(LEANING)
        self.assertEqual(said(desk, "cut 0", "order"), ["ok", "0 1 2 3 4 5"])
        self.assertEqual(said(desk, "cut 3", "cut 2", "order"), ["ok", "ok", "0 1 2 3 4 5"])
        self.refused(NoTurn, desk.say, "free 2")

    def test_plain(self):
        desk = Desk(LEANING)
        self.assertEqual(said(desk, "plain", "order"), ["ok", "0 1 2 3 4 5"])
        said(desk, "cut 0", "cut 3", "exchange 0 0 1", "block 0 0 2", "cut 1")
        self.assertEqual(desk.say("plain"), "ok")
        self.assertEqual(all_told(desk), all_told(Desk(LEANING)))

    def test_nests_that_are_not_there(self):
        for row in ("exchange {} 1 2", "backward {} 1", "slant {} 1 2 1", "move {} 0 1 1", "block {} 1 2"):
            for nest in ("-1", "2", "99", "9" * 60, "-" + "9" * 60):
                self.refused(NoTurn, Desk(APART).say, row.format(nest))
            self.assertEqual(Desk(APART).say(row.format(1)), "ok")

    def test_deeds_that_are_not_there(self):
        for deed in ("-1", "2", "-2", "9" * 60):
            self.refused(NoTurn, Desk(shown(PROGRAM)).say, f"move 0 {deed} 1 1")
        self.refused(NoTurn, Desk(shown(PROGRAM)).say, "move 1 1 1 1")

    def test_lines_that_are_not_there(self):
        for row in ("exchange 0 {} 2", "exchange 0 2 {}", "backward 0 {}", "slant 0 {} 2 1", "slant 0 2 {} 1",
                    "move 0 0 {} 1", "block 0 {} 2", "cut {}", "free {}"):
            for at in ("-1", "5", "-5", "99", "9" * 60, "-" + "9" * 60):
                self.refused(NoTurn, Desk(LEANING).say, row.format(at))
            Desk(LEANING).say(row.format(4))
            desk = Desk(LEANING)
            said(desk, "cut 4", "cut 3")
            self.refused(NoTurn, desk.say, row.format(3))

    def test_a_line_slanted_by_itself(self):
        self.refused(NoTurn, Desk(LEANING).say, "slant 0 1 1 1")
        self.refused(NoTurn, Desk(LEANING).say, "slant 0 1 1 0")

    def test_blocks_are_no_forms(self):
        desk = Desk(APART)
        said(desk, "block 0 1 2")
        for row in ("backward 0 1", "slant 0 1 2 1", "slant 0 2 1 1", "move 0 0 1 1", "block 0 1 2"):
            self.refused(NoTurn, desk.say, row)
        self.assertEqual(said(desk, "exchange 0 1 2", "backward 0 1", "backward 1 1", "cut 2"), ["ok"] * 4)

    def test_one_line_and_nine(self):
        desk = Desk(LEANING)
        said(desk, "cut 4", "cut 3", "cut 2", "cut 1")
        self.refused(NoTurn, desk.say, "cut 0")
        said(desk, "plain", "block 0 1 2", "block 0 2 2", "block 0 3 2", "block 0 4 2")
        self.assertEqual(desk.say("free 8"), "yes")
        self.refused(NoTurn, desk.say, "block 0 5 2")
        self.refused(NoTurn, desk.say, "free 9")
        self.assertEqual(said(desk, "cut 1", "block 0 4 3", "keeps"), ["ok", "ok", "yes"])


class NoRows(Refusing):
    def test_other_first_words(self):
        for word in ("", "Show", "SHOW", "shows", "step", "touches", "exchanged", "slanted", "moved", "blocked", "cuts",
                     "keep", "end", "round", "help", "quit", "0", "-1", "ok", "yes", "a", "show\n", "\nshow", "say", "?"):
            for more in ("", " 0", " 0 0", " 0 0 0", " 0 1 2 3"):
                self.refused(NoRow, Desk(LEANING).say, word + more)

    def test_too_few_and_too_many_words(self):
        for word, numbers in ROWS.items():
            for told in range(7):
                if told != numbers:
                    desk = Desk(LEANING)
                    self.refused(NoRow, desk.say, " ".join([word] + ["1", "2", "0", "1", "1", "1"][:told]))
                    self.assertEqual(all_told(desk), all_told(Desk(LEANING)))

    def test_blanks_more(self):
        for word, numbers in ROWS.items():
            row = " ".join([word] + ["0", "1", "0", "1"][:numbers])
            tell_or_refuse(Desk(LEANING).say, row)
            wrong = [" " + row, row + " ", "  " + row, row.replace(" ", "  "), row.replace(" ", "\n"), row + "\n",
                     row.replace(" ", "\t"), row.replace(" ", ","), row.replace(" ", ""), "\t" + row]
            for told in wrong:
                if told != row:
                    self.refused(NoRow, Desk(LEANING).say, told)

    def test_numbers_written_otherwise(self):
        for word, numbers in ROWS.items():
            for at in range(numbers):
                for number in NO_NUMBERS:
                    words = [word] + ["0", "0", "0", "0"][:numbers]
                    words[1 + at] = number
                    self.refused(NoRow, Desk(LEANING).say, " ".join(words))

    def test_numbers_of_sixty_figures(self):
        for sign in ("", "-"):
            self.assertEqual(Desk(LEANING).say("move 0 0 1 " + sign + "9" * 60), "ok")
            self.refused(NoRow, Desk(LEANING).say, "move 0 0 1 " + sign + "1" + "0" * 60)
            self.refused(NoTurn, Desk(LEANING).say, "cut " + sign + "9" * 60)
            self.refused(NoRow, Desk(LEANING).say, "cut " + sign + "1" + "0" * 60)

    def test_things_that_are_no_text(self):
        for thing in NOT_TUPLE + NOT_WHOLE + [("show",), ["show"], b"show", {"show": 0}, 0]:
            self.refused(NoRow, Desk(LEANING).say, thing)

    def test_what_is_no_row_goes_ahead_of_what_can_not_be_turned(self):
        for row in ("exchange 9 9 x", "backward 9 01", "slant 9 1 1 +1", "move 0 9 0 -0", "block 0 0 1000 0", "block 9 0",
                    "block 0 9 " + "9" * 61, "cut 9 9", "free 09"):
            self.refused(NoRow, Desk(LEANING).say, row)

    def test_of_a_desk_with_equal_keys(self):
        desk = Desk(LEANING)
        desk.say("cut 1")
        for row in ("order 0", "keeps ", "ends 1", " order", "Order"):
            self.refused(NoRow, desk.say, row)


class EqualKeys(Refusing):
    def test_order_keeps_and_ends_are_refused(self):
        desk = Desk(LEANING)
        desk.say("cut 1")
        # j alone is left, so 0 and 3, 1 and 4, 2 and 5 have one key.
        for row in ("order", "keeps", "ends", "order"):
            self.assertEqual(self.refused(Tied, desk.say, row).pair, (0, 3))
        self.assertEqual(said(desk, "show", "steps", "touch 1 3", "rounds", "best 0", "free 1"), [
            LEANING, "6", "yes", "0 1 2 5; 3 4", "7 0 1 1 1", "no 1 3"])
        # i alone.
        said(desk, "plain", "cut 2")
        for row in ("order", "keeps", "ends"):
            self.assertEqual(self.refused(Tied, desk.say, row).pair, (0, 1))

    def test_turned_farther_they_may_go_again(self):
        desk = Desk(LEANING)
        # i and j, then nothing more: 3 with 1, and 4 with 2.
        said(desk, "slant 0 2 1 1", "cut 1")
        self.assertEqual(self.refused(Tied, desk.say, "order").pair, (1, 3))
        self.assertEqual(said(desk, "plain", "order", "keeps", "ends"), ["ok", "0 1 2 3 4 5", "yes", "alike"])

    def test_no_steps_are_never_tied(self):
        self.assertEqual(said(Desk(EMPTY), "cut 1", "order", "keeps", "ends"), ["ok", "", "yes", "alike"])


class NothingChanged(Refusing):
    TURNED = ["exchange 0 1 2", "block 0 2 2", "backward 0 1", "move 0 0 3 4"]
    WRONG = [
        "", "order 1", "exchange 0 1", "exchange 1 1 2", "exchange 0 1 9", "exchange 0 9 1", "backward 0 2", "backward 0 9",
        "backward 1 1", "slant 0 1 2 5", "slant 0 1 1 5", "slant 0 9 1 5", "move 0 0 2 1", "move 0 1 1 1", "move 1 0 1 1",
        "move 0 0 9 1", "move 0 0 1 1" + "0" * 60, "block 0 1 0", "block 0 1 100", "block 0 2 5", "block 1 1 5", "block 0 9 5",
        "cut 9", "cut -1", "cut 00", "plain 0", "plain ", "Plain", "free 9", "touch 9 0", "best 1", None, 5, ["plain"],
    ]

    def test_what_is_refused_changes_nothing(self):
        fresh = Desk(LEANING)
        said(fresh, *self.TURNED)
        wanted = all_told(fresh)
        for row in self.WRONG:
            desk = Desk(LEANING)
            said(desk, *self.TURNED)
            with self.assertRaises(TurnError, msg=row):
                desk.say(row)
            self.assertEqual(all_told(desk), wanted, row)

    def test_all_refused_one_behind_the_other(self):
        desk = Desk(LEANING)
        said(desk, *self.TURNED)
        wanted = all_told(desk)
        for row in self.WRONG:
            tell_or_refuse(desk.say, row)
        self.assertEqual(all_told(desk), wanted)

    def test_what_is_told_changes_nothing(self):
        for text in TEXTS:
            desk = Desk(text)
            wanted = all_told(desk)
            for row in ("show", "steps", "order", "keeps", "ends", "free 1", "rounds", "best 0", "touch 0 1"):
                one = tell_or_refuse(desk.say, row)
                self.assertEqual(tell_or_refuse(desk.say, row), one)
            self.assertEqual(all_told(desk), wanted)

    def test_two_desks_do_not_change_one_another(self):
        one, other, third = Desk(LEANING), Desk(LEANING), Desk(CHAIN)
        wanted = all_told(other)
        said(one, "exchange 0 1 2", "cut 0", "cut 3")
        self.assertEqual(all_told(other), wanted)
        said(other, "backward 0 2")
        self.assertEqual([one.say("order"), other.say("order"), third.say("order")], [
            "0 3 1 4 2 5", "2 1 0 5 4 3", "0 1 2 3"])
        one.say("plain")
        self.assertEqual(other.say("order"), "2 1 0 5 4 3")
        self.assertEqual(all_told(Desk(LEANING)), wanted)


class TurnedBack(unittest.TestCase):
    BACK = [
        ("exchange 0 1 2", "exchange 0 1 2"), ("exchange 0 0 3", "exchange 0 3 0"), ("backward 0 1", "backward 0 1"),
        ("backward 0 4", "backward 0 4"), ("slant 0 1 2 7", "slant 0 1 2 -7"), ("slant 0 2 0 -3", "slant 0 2 0 3"),
        ("slant 0 3 1 " + "9" * 60, "slant 0 3 1 -" + "9" * 60), ("move 0 0 1 5", "move 0 0 1 -5"),
        ("move 0 0 4 -" + "8" * 60, "move 0 0 4 " + "8" * 60), ("block 0 1 2", "cut 1"), ("block 0 0 99", "cut 0"),
        ("block 0 4 1", "cut 4"),
    ]

    def test_one_row_and_back(self):
        for text in TEXTS:
            wanted = all_told(Desk(text))
            for row, back in self.BACK:
                desk = Desk(text)
                self.assertEqual(said(desk, row, back), ["ok", "ok"])
                self.assertEqual(all_told(desk), wanted, (row, back))

    def test_several_rows_and_back(self):
        for two in itertools.combinations(self.BACK, 2):
            (one, one_back), (other, other_back) = two
            desk = Desk(LEANING)
            desk.say(one)
            wanted = all_told(desk)
            if tell_or_refuse(desk.say, other) == "ok":
                self.assertEqual(desk.say(other_back), "ok")
            self.assertEqual(all_told(desk), wanted, two)
            self.assertEqual(desk.say(one_back), "ok")
            self.assertEqual(all_told(desk), all_told(Desk(LEANING)), two)


def spaced(numbers):
    return " ".join(str(number) for number in numbers)


def pair_told(pair):
    return "yes" if pair is None else "no " + spaced(pair)


class AsTheStages(unittest.TestCase):
    TURNS = {
        "exchange": exchanged, "backward": backward, "slant": slanted, "move": moved, "block": blocked, "cut": cut,
    }
    ROWS = [
        "exchange 0 1 2", "exchange 1 0 1", "backward 0 1", "backward 1 2", "slant 0 1 2 1", "slant 0 2 1 -2", "move 0 0 1 1",
        "move 1 0 0 -1", "block 0 1 2", "block 1 2 3", "cut 1", "cut 4", "cut 5", "move 0 1 4 -3", "backward 2 1",
    ]

    def turned(self, program, plan, row):
        words = row.split(" ")
        return self.TURNS[words[0]](program, plan, *[int(word) for word in words[1:]])

    def look(self, desk, program, plan):
        def order():
            return order_of(program, plan)
        looks = [
            ("order", lambda: spaced(order())), ("keeps", lambda: pair_told(broken(program, order()))),
            ("ends", lambda: compared(program, order(), plain(program))[0]),
            ("free 0", lambda: pair_told(barring(program, plan, 0))),
            ("free 2", lambda: pair_told(barring(program, plan, 2))),
            ("free 5", lambda: pair_told(barring(program, plan, 5))),
        ]
        for row, tell in looks:
            self.assertEqual(tell_or_refuse(desk.say, row), tell_or_refuse(tell), row)

    def test_rows_one_behind_the_other(self):
        for number, program in enumerate(some_programs()[::3] + [PROGRAM, TRIPLE]):
            rows = self.ROWS[number % 5:] + self.ROWS[:number % 5]
            for rows in (rows, rows[::-1], rows[::2]):
                desk, plan = Desk(shown(program)), plain_plan(program)
                for row in rows:
                    told = tell_or_refuse(self.turned, program, plan, row)
                    self.assertEqual(tell_or_refuse(desk.say, row), "ok" if isinstance(told, tuple) else told)
                    plan = told if isinstance(told, tuple) else plan
                    self.look(desk, program, plan)

    def test_rows_that_hang_on_no_plan(self):
        for program in some_programs()[::2] + [PROGRAM, TRIPLE]:
            desk = Desk(shown(program))
            steps = len(plain(program))
            self.assertEqual(said(desk, "show", "steps"), [shown(program), str(steps)])
            self.assertEqual(desk.say("rounds"), "; ".join(spaced(told) for told in rounds(program)[0]))
            for nest in range(len(program[1])):
                far, (lines, signs) = best(program, nest)
                self.assertEqual(desk.say(f"best {nest}"), spaced((far, *lines, *signs)))
            for i, j in itertools.product(range(0, steps, 2), range(steps)):
                self.assertEqual(desk.say(f"touch {i} {j}"), "yes" if touches(program, i, j) else "no")


if __name__ == "__main__":
    unittest.main()
