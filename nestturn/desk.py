"""A desk: it keeps a program and a plan of it, is told rows of words, and answers each with a text."""

from nestturn.alike import compared
from nestturn.best import best
from nestturn.errors import NoRow, NoTurn
from nestturn.keeping import broken
from nestturn.plans import is_size, order_of, plain_plan
from nestturn.programs import number_of_steps
from nestturn.rounds import barring, rounds
from nestturn.runs import plain
from nestturn.texts import is_number, read, shown, without_sign
from nestturn.touch import touches
from nestturn.turns import backward, blocked, cut, exchanged, moved, slanted

TURNING = ("exchange", "backward", "slant", "move", "block", "cut", "plain")
# For each first word how many numbers stand behind it.
NUMBERS_BEHIND = {
    "exchange": 3, "backward": 2, "slant": 4, "move": 4, "block": 3, "cut": 1, "plain": 0,
    "show": 0, "steps": 0, "touch": 2, "order": 0, "keeps": 0, "ends": 0, "free": 1, "rounds": 0, "best": 1,
}
MOST_FIGURES = 60


def number_said(word):
    if not is_number(word) or len(without_sign(word)) > MOST_FIGURES:
        raise NoRow("a number of the row is not written as one, or has more than sixty figures")
    return int(word)


def words_said(row):
    if not isinstance(row, str):
        raise NoRow("what is said is no text")
    words = row.split(" ")
    if NUMBERS_BEHIND.get(words[0]) != len(words) - 1:
        raise NoRow("there is no row of this first word, or none of so many words")
    return words


def refuse_not_below(number, most):
    if not 0 <= number < most:
        raise NoRow("a step or a nest of the row is not there")


def refuse_no_size(size):
    if not is_size(size):
        raise NoTurn("the size of a block is from 1 to 99")


def turned(program, plan, word, numbers):
    if word == "exchange":
        return exchanged(program, plan, numbers[0], numbers[1], numbers[2])
    if word == "backward":
        return backward(program, plan, numbers[0], numbers[1])
    if word == "slant":
        return slanted(program, plan, numbers[0], numbers[1], numbers[2], numbers[3])
    if word == "move":
        return moved(program, plan, numbers[0], numbers[1], numbers[2], numbers[3])
    if word == "block":
        refuse_no_size(numbers[2])
        return blocked(program, plan, numbers[0], numbers[1], numbers[2])
    if word == "cut":
        return cut(program, plan, numbers[0])
    return plain_plan(program)


def joined(numbers):
    return " ".join([str(number) for number in numbers])


def yes_or_no(pair):
    return "yes" if pair is None else "no " + joined(pair)


def touch_told(program, i, j):
    number = number_of_steps(program[1])
    refuse_not_below(i, number)
    refuse_not_below(j, number)
    return "yes" if touches(program, i, j) else "no"


def rounds_told(program):
    return "; ".join([joined(steps) for steps in rounds(program)[0]])


def best_told(program, nest):
    refuse_not_below(nest, len(program[1]))
    found = best(program, nest)
    turning = found[1]
    return joined(found[:1] + turning[0] + turning[1])


def told(program, plan, word, numbers):
    if word == "show":
        return shown(program)
    if word == "steps":
        return str(number_of_steps(program[1]))
    if word == "touch":
        return touch_told(program, numbers[0], numbers[1])
    if word == "order":
        return joined(order_of(program, plan))
    if word == "keeps":
        return yes_or_no(broken(program, order_of(program, plan)))
    if word == "ends":
        return compared(program, order_of(program, plan), plain(program))[0]
    if word == "free":
        return yes_or_no(barring(program, plan, numbers[0]))
    if word == "rounds":
        return rounds_told(program)
    return best_told(program, numbers[0])


# The plan is kept only when a row has turned it: what is refused changes nothing.
class Desk:
    def __init__(self, text):
        self.program = read(text)
        self.plan = plain_plan(self.program)

    def say(self, row):
        words = words_said(row)
        numbers = [number_said(word) for word in words[1:]]
        if words[0] in TURNING:
            self.plan = turned(self.program, self.plan, words[0], numbers)
            return "ok"
        return told(self.program, self.plan, words[0], numbers)
