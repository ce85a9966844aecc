"""A test that asks what is refused, and with which of the refusals alone."""

import unittest

from nestturn.errors import NoOrder, NoPlan, NoProgram, NoRow, NoText, NoTurn, Tied, TooMany, TurnError

KINDS = (NoProgram, TooMany, NoOrder, NoPlan, Tied, NoTurn, NoText, NoRow)


class Refusing(unittest.TestCase):
    def refused(self, kind, tell, *asked):
        with self.assertRaises(TurnError, msg=(tell, asked)) as taken:
            tell(*asked)
        for other in KINDS:
            self.assertEqual(isinstance(taken.exception, other), other is kind, (tell, asked))
        return taken.exception
