"""handnames.looks: what are ROUNDS, and what a hand has seen behind them."""

import itertools
import random
import unittest

from handnames.looks import are_rounds, view_of
from look_model import all_rounds, drawn_rounds, hands_of, rounds_among, rounds_of, views
from plain_things import ODD, assert_told, swapped


class AreRounds(unittest.TestCase):
    def told(self, many, thing, expected):
        assert_told(self, expected, are_rounds, many, thing)

    def test_written_out(self):
        for many, rounds in [
            (1, (((0,),),)), (1, (((0,),),) * 4), (2, (((0, 1),),)), (2, (((1,), (0,)),)), (2, (((1,),),)),
            (2, (((0, 1),), ((1,), (0,)), ((0,),), ((0,),))), (3, (((0, 2), (1,)), ((2,), (0,)))),
            (6, (((5,), (0, 3), (1, 2, 4)), ((0, 1, 2, 3, 4, 5),), ((4,), (2,)), ((2,),))),
            (6, (((5,),), ((5,),))),
        ]:
            self.told(many, rounds, True)

    def test_all_of_few_hands(self):
        for many, count in [(1, 4), (2, 3), (3, 2), (4, 1)]:
            for rounds in all_rounds(many, count):
                self.told(many, rounds, True)

    def test_drawn_ones_of_one_to_six_hands_one_to_four_rounds(self):
        chance = random.Random(70)
        for many, count in itertools.product(range(1, 7), range(1, 5)):
            for turn in range(15):
                rounds = drawn_rounds(chance, many, count)
                self.told(many, rounds, True)
                self.told(6, rounds, True)

    def test_how_many_rounds(self):
        for many in range(1, 7):
            one = (tuple(range(many)),)
            for count in range(8):
                self.told(many, (one,) * count, 1 <= count <= 4)

    def test_hands_missing_in_later_rounds(self):
        for kept in [(0,), (1,), (2,), (0, 1), (1, 2), (0, 2), (0, 1, 2)]:
            for one, later in itertools.product(rounds_of(range(3)), rounds_of(kept)):
                self.told(3, (one, later), True)
                self.told(3, (later, one), len(kept) == 3)
                self.told(3, (one, later, later, later), True)
                self.told(3, (one, later, one), len(kept) == 3)

    def test_hands_that_the_round_ahead_has_not(self):
        self.told(2, (((0,),), ((1,),)), False)
        self.told(2, (((0,),), ((0, 1),)), False)
        self.told(2, (((0,),), ((0,), (1,))), False)
        self.told(3, (((0, 1, 2),), ((0, 2),), ((0, 1),)), False)
        # Not those of any round ahead count, those of the one just ahead alone.
        self.told(3, (((0, 1, 2),), ((0,),), ((1,),)), False)
        self.told(4, (((0, 1, 2, 3),), ((0, 1, 2),), ((0, 1),), ((2,),)), False)
        self.told(6, (((0, 1, 2, 3, 4),), ((5,),)), False)

    def test_a_hand_in_two_blocks(self):
        for thing in [(((0,), (0,)),), (((0, 1), (1,)),), (((1,), (0, 1)),), (((0, 1), (0, 1)),),
                      (((2,), (0,), (1, 2)),), (((0, 1, 2),), ((0,), (1,), (0, 2)))]:
            self.told(3, thing, False)

    def test_blocks_and_rounds_without_hands(self):
        for thing in [(), ((),), (((),),), (((0,), ()),), (((), (0,)),), (((0,),), ()), ((), ((0,),)),
                      (((0,),), ((),)), (((0,), (), (1,)),), (((0, 1),), ((0,),), ())]:
            self.told(2, thing, False)

    def test_blocks_that_are_not_rising(self):
        for thing in [(((1, 0),),), (((0, 2, 1),),), (((0, 0),),), (((2, 1, 0),),), (((0,), (2, 1)),),
                      (((0, 1, 1),),), (((0, 1, 2),), ((1, 0),))]:
            self.told(3, thing, False)

    def test_hands_beyond_and_below_nought(self):
        for many in range(1, 7):
            for hand in (many, many + 1, -1, -many, 10 ** 39, -(10 ** 39)):
                self.told(many, (((hand,),),), False)
                self.told(many, (((0,), (hand,)),), False)
                self.told(many, (((0,),), ((hand,),)), False)
                self.told(many, ((tuple(sorted((0, hand))),),), False)
            self.told(many, (((many - 1,),),), True)

    def test_truths_in_place_of_numbers(self):
        for thing in [(((False,),),), (((True,),),), (((0, True),),), (((False, 1),),), (((0,), (True,)),),
                      (((0, 1),), ((True,),)), ((True,),), (True,), True, False, ((False,),)]:
            self.told(2, thing, False)

    def test_lists_in_place_of_tuples_anywhere(self):
        self.told(3, (((0,), (1, 2)), ((1, 2),)), True)
        for thing in [[((0,), (1, 2)), ((1, 2),)], ([(0,), (1, 2)], ((1, 2),)), (([0], (1, 2)), ((1, 2),)),
                      (((0,), [1, 2]), ((1, 2),)), (((0,), (1, 2)), [(1, 2)]), (((0,), (1, 2)), ([1, 2],)),
                      (((0,), ([1], 2)), ((1, 2),)), [[[0]]], ([[0]],), (([0],),)]:
            self.told(3, thing, False)

    def test_odd_things(self):
        for many in range(1, 7):
            for odd in ODD + [0, 1, "rounds", {}, ((0,),), (0, 1), ((0,), (1,)), ((((0,),),),)]:
                self.told(many, odd, False)

    def test_any_part_swapped(self):
        known = {repr(rounds) for count in (1, 2, 3) for rounds in all_rounds(2, count)}
        seen = [0, 0]
        for rounds in [(((0, 1),),), (((1,), (0,)), ((0,),)), (((0, 1),), ((0,), (1,)), ((1,),))]:
            for odd in ODD + [0, 1, 2, (), (1,), (0, 1), (1, 0), ((0,),), ((1,),), ((0, 1),), ((1,), (0,)), [(0,)]]:
                for thing in swapped(rounds, odd):
                    self.told(2, thing, repr(thing) in known)
                    seen[repr(thing) in known] += 1
        self.assertGreater(min(seen), 20)


class ViewOf(unittest.TestCase):
    def test_written_out(self):
        nought, one, two = (0, ()), (1, ()), (2, ())
        for rounds, hand, expected in [
            ((((0,),),), 0, (0, (nought,))),
            ((((5,),),), 5, (5, ((5, ()),))),
            ((((0, 1),),), 1, (1, (nought, one))),
            ((((1,), (0,)),), 1, (1, (one,))),
            ((((1,), (0,)),), 0, (0, (nought, one))),
            ((((2,), (0, 1)),), 1, (1, (nought, one, two))),
            ((((2,), (0,), (1,)),), 0, (0, (nought, two))),
            ((((1,), (0,)), ((0,), (1,))), 0, (0, ((0, (nought, one)),))),
            ((((1,), (0,)), ((0,), (1,))), 1, (1, ((0, (nought, one)), (1, (one,))))),
            ((((0, 1, 2),), ((2,), (1,))), 1, (1, ((1, (nought, one, two)), (2, (nought, one, two))))),
            ((((0,), (1,), (2,)), ((2,),)), 2, (2, ((2, (nought, one, two)),))),
            ((((0,),),) * 4, 0, (0, ((0, ((0, ((0, (nought,)),)),)),))),
        ]:
            assert_told(self, expected, view_of, rounds, hand)

    def each_hand(self, rounds):
        told = views(rounds)
        self.assertEqual(set(told), hands_of(rounds[-1]))
        for hand in told:
            assert_told(self, told[hand], view_of, rounds, hand)

    def test_all_of_few_hands(self):
        for many, count in [(1, 4), (2, 3), (3, 2), (4, 1)]:
            for rounds in all_rounds(many, count):
                self.each_hand(rounds)

    def test_all_of_five_hands_one_round(self):
        for one in rounds_among(range(5)):
            self.each_hand((one,))

    def test_drawn_ones_behind_one_to_four_rounds(self):
        chance = random.Random(71)
        for many, count in itertools.product(range(1, 7), range(1, 5)):
            for turn in range(6):
                self.each_hand(drawn_rounds(chance, many, count, chance.choice((0.5, 0.9, 1))))

    def test_who_stopped_is_in_what_was_seen_ahead_alone(self):
        rounds = (((0,), (1, 2)), ((1, 2),), ((2,),))
        behind_one = {1: (1, ((0, ()), (1, ()), (2, ()))), 2: (2, ((0, ()), (1, ()), (2, ())))}
        assert_told(self, (2, ((2, (behind_one[1], behind_one[2])),)), view_of, rounds, 2)

    def test_ahead_of_all_rounds(self):
        for hand in range(6):
            told = view_of((((hand,),),), hand)
            self.assertEqual(repr(told[1]), repr(((hand, ()),)))


if __name__ == "__main__":
    unittest.main()
