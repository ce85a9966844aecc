"""The names of the interface are there, each with its arguments by their names."""

import importlib
import inspect
import unittest

from nestturn.desk import Desk

FUNCTIONS = {
    "forms": {
        "is_whole": "thing", "is_form": "thing d", "comes_to": "form counts", "is_loops": "thing", "counts_of": "loops",
    },
    "programs": {"program_of": "widths nests", "steps_of": "program", "cells_of": "program"},
    "runs": {"plain": "program", "run": "program row filling"},
    "traces": {"traced": "program row"},
    "touch": {
        "touches": "program i j", "pairs": "program", "sources": "program", "span": "program i j", "spans": "program",
    },
    "meets": {"meeting": "loops place others other", "is_reason": "loops place others other reason"},
    "plans": {"is_plan": "program thing", "plain_plan": "program", "keys": "program plan", "order_of": "program plan"},
    "turns": {
        "exchanged": "program plan nest a b", "backward": "program plan nest a",
        "slanted": "program plan nest a b factor", "moved": "program plan nest deed a number",
        "blocked": "program plan nest a size", "cut": "program plan a",
    },
    "keeping": {"broken": "program order", "led": "program order", "leads": "program exchanges order"},
    "alike": {"compared": "program row other"},
    "rounds": {"rounds": "program", "are_rounds": "program lists", "barring": "program plan a"},
    "needs": {"needed": "program cells"},
    "best": {
        "reach": "program order", "turnings": "program nest", "turned_by": "program nest turning",
        "best": "program nest", "freeing": "program nest",
    },
    "texts": {"read": "text", "shown": "program"},
    "desk": {"Desk": "text"},
}


class Interface(unittest.TestCase):
    def test_names_and_arguments(self):
        for module, functions in FUNCTIONS.items():
            found = importlib.import_module("nestturn." + module)
            for name, wanted in functions.items():
                told = inspect.signature(getattr(found, name)).parameters
                self.assertEqual(list(told), wanted.split(), (module, name))

    def test_the_desk_is_a_class_that_is_told_rows(self):
        self.assertIsInstance(Desk, type)
        self.assertEqual(list(inspect.signature(Desk.say).parameters)[1:], ["row"])


if __name__ == "__main__":
    unittest.main()
