"""What the tests of a checker that is asked by the number of hands alone say, told once for all of them."""

import unittest

from handnames.errors import NoStand
from plain_things import assert_refused, assert_told


class Checked(unittest.TestCase):
    """A class of tests says which checker it asks, and which model tells what is due of a STAND."""

    checker = model = None

    def lets(self, many, thing):
        assert_told(self, True, self.checker, many, thing)

    def refuses(self, many, thing, word, at):
        assert_refused(self, NoStand(word, at), self.checker, many, thing)

    def told(self, many, stand):
        """What is due by the model, and that the checker says so."""
        fault = self.model(many, stand)
        if fault is None:
            self.lets(many, stand)
        else:
            self.refuses(many, stand, *fault)
        return fault
