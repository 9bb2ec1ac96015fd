"""handnames.blocks: the round of the views held in the end, and a weaving that leads to a round's views."""

import random
import unittest

from handnames.blocks import round_of, weaving_of
from handnames.going import ends
from handnames.levelchecker import lets_levels
from handnames.levels import first_levels, level_names
from handnames.looks import are_rounds, view_of
from handnames.machines import first, moving, woven
from handnames.pairs import told_way
from handnames.types import names_by, type_of
from level_model import behind
from look_model import drawn_greats, drawn_round, rounds_of
from plain_things import assert_same, assert_told


def seen_by(one, hand):
    """The hands that a hand sees in a ROUND, rising, by the number of its block."""
    number = {other: at for at, block in enumerate(one) for other in block}
    return tuple(sorted(other for other in number if number[other] <= number[hand]))


def end_of(one):
    """The stand of levels in which each hand holds what it sees in a ROUND."""
    views = [seen_by(one, hand) for hand in range(sum(map(len, one)))]
    return (tuple(map(len, views)), tuple(("holds", view) for view in views))


def drawn_end(chance, many):
    """The stand at the end of any weaving, all hands to the end."""
    stand = first_levels(many)
    going = list(range(many))
    while going:
        # Now and then one hand alone for a while: so that not all hold one view.
        hand = chance.choice(going)
        for step in range(chance.choice((1, 1, 2, 5, 12))):
            stand = behind(stand, hand) or stand
        going = [hand for hand in going if behind(stand, hand) is not None]
    return stand


class RoundOf(unittest.TestCase):
    def test_written_out(self):
        for one, stand in [
            (((0,),), ((1,), (("holds", (0,)),))),
            (((0, 1),), ((2, 2), (("holds", (0, 1)), ("holds", (0, 1))))),
            (((1,), (0,)), ((2, 1), (("holds", (0, 1)), ("holds", (1,))))),
            (((0,), (1,)), ((1, 2), (("holds", (0,)), ("holds", (0, 1))))),
            (((0, 2), (1,)), ((2, 3, 2), (("holds", (0, 2)), ("holds", (0, 1, 2)), ("holds", (0, 2))))),
            (((2,), (0, 1)), ((3, 3, 1), (("holds", (0, 1, 2)), ("holds", (0, 1, 2)), ("holds", (2,))))),
        ]:
            self.assertIs(lets_levels(len(stand[0]), stand), True)
            assert_told(self, one, round_of, stand)

    def test_all_rounds_of_up_to_five_hands(self):
        for many in range(1, 6):
            for one in rounds_of(range(many)):
                stand = end_of(one)
                self.assertIs(lets_levels(many, stand), True)
                assert_told(self, one, round_of, stand)

    def test_drawn_rounds_of_six_hands(self):
        chance = random.Random(110)
        for turn in range(300):
            one = drawn_round(chance, range(6))
            assert_told(self, one, round_of, end_of(one))

    def test_the_ends_are_those_of_all_rounds(self):
        for many in (1, 2, 3):
            told = ends(("levels", tuple(range(many))))
            self.assertEqual({round_of(stand) for stand in told}, set(rounds_of(range(many))))
            self.assertEqual(len(told), len(rounds_of(range(many))))


class WeavingOf(unittest.TestCase):
    def leads(self, one):
        """The weaving leads from the first stand to an end with the views of the ROUND, and is a weaving."""
        before = repr(one)
        weaving = weaving_of(one)
        self.assertEqual(repr(one), before)
        many = sum(map(len, one))
        self.assertIs(type(weaving), tuple)
        self.assertLessEqual(len(weaving), 400)
        stand = first_levels(many)
        for hand in weaving:
            self.assertIs(type(hand), int)
            self.assertIn(hand, range(many))
            stand = behind(stand, hand) or stand
        assert_same(self, stand, end_of(one))
        assert_told(self, one, round_of, stand)
        return weaving

    def test_all_rounds_of_up_to_five_hands(self):
        for many in range(1, 6):
            for one in rounds_of(range(many)):
                self.leads(one)

    def test_drawn_rounds_of_six_hands(self):
        chance = random.Random(111)
        for turn in range(300):
            self.leads(drawn_round(chance, range(6)))

    def test_of_one_block(self):
        for many in range(1, 7):
            self.leads((tuple(range(many)),))

    def test_of_each_hand_alone(self):
        for many in range(1, 7):
            for order in (range(many), reversed(range(many)), [(5 * hand + 1) % many for hand in range(many)]):
                one = tuple((hand,) for hand in order)
                if len(set(one)) == many:
                    self.leads(one)

    def test_by_machines(self):
        for one in [((0,),), ((3,), (0, 5), (1,), (2, 4)), ((1, 2), (0,))]:
            machine = ("levels", tuple(range(100, 100 + sum(map(len, one)))))
            stand = woven(machine, first(machine), self.leads(one))
            self.assertEqual(moving(machine, stand), [])
            assert_same(self, stand, end_of(one))


class AnyWeaving(unittest.TestCase):
    """At the end of any weaving of levels the hands have seen just what they see in one round."""

    def test_views_are_those_of_the_round(self):
        chance = random.Random(112)
        for many in range(1, 7):
            rounds = set()
            for turn in range(60):
                stand = drawn_end(chance, many)
                self.assertIs(lets_levels(many, stand), True)
                one = round_of(stand)
                self.assertIs(are_rounds(many, (one,)), True)
                assert_same(self, stand, end_of(one))
                for hand in range(many):
                    seen = tuple(other for other, ahead in view_of((one,), hand)[1])
                    assert_same(self, stand[1][hand], ("holds", seen))
                rounds.add(one)
            self.assertGreater(len(rounds), [0, 2, 6, 10, 15, 15][many - 1])

    def test_names_are_those_of_the_told_way(self):
        chance = random.Random(113)
        for many in range(1, 5):
            way = told_way(many)
            for turn in range(60):
                stand = drawn_end(chance, many)
                greats = drawn_greats(chance, many)
                one = round_of(stand)
                held = level_names(greats, stand)
                assert_same(self, held, tuple(names_by(way, greats, (one,)).values()))
                assert_same(self, held, tuple(way[type_of(greats, view_of((one,), hand))] for hand in range(many)))


if __name__ == "__main__":
    unittest.main()
