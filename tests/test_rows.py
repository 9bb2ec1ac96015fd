"""handnames.rows: the first stand, steps, names."""

import itertools
import random
import unittest

from handnames.errors import NoStep
from handnames.rows import first_row, row_names, step_row
from plain_things import assert_refused, assert_same, assert_told
from row_model import behind, boxed, drawn_boxed, drawn_let, heres, working

RESTS = ("rests",)


class Steps(unittest.TestCase):
    def steps(self, stand, hand, expected):
        if expected is None:
            assert_refused(self, NoStep(hand), step_row, stand, hand)
        else:
            assert_told(self, expected, step_row, stand, hand)

    def test_first_stand(self):
        assert_told(self, ((None,), (("rests",),), 0), first_row, 1)
        assert_told(self, ((None, None), (("rests",), ("rests",)), 0), first_row, 2)
        for many in range(1, 7):
            assert_told(self, (tuple([None] * many), tuple([("rests",)] * many), 0), first_row, many)

    def test_a_hand_alone_takes_the_first_box_and_gives_it_back(self):
        for many in range(1, 7):
            for hand in range(many):
                hands = [RESTS] * many
                stands = [boxed(hands, 0)]
                for here in (("tries", 1), ("holds", 1), RESTS, ("tries", 1), ("holds", 1), RESTS):
                    hands[hand] = here
                    stands.append(boxed(hands, 1))
                for stand, behind_it in zip(stands, stands[1:]):
                    self.steps(stand, hand, behind_it)

    def test_written_out_for_two_hands(self):
        begun = ((None, None), (("tries", 1), RESTS), 1)
        both = ((None, None), (("tries", 1), ("tries", 1)), 2)
        taken = ((1, None), (("tries", 1), ("holds", 1)), 2)
        passed = ((1, None), (("tries", 2), ("holds", 1)), 2)
        given_back = ((None, None), (("tries", 2), RESTS), 2)
        second = ((None, 0), (("holds", 2), RESTS), 2)
        again = ((None, 0), (("holds", 2), ("tries", 1)), 2)
        first_again = ((1, 0), (("holds", 2), ("holds", 1)), 2)
        come = [(first_row(2), 0, begun), (begun, 1, both), (both, 1, taken), (taken, 0, passed),
                (passed, 1, given_back), (given_back, 0, second), (second, 1, again), (again, 1, first_again)]
        for stand, hand, behind_it in come:
            self.steps(stand, hand, behind_it)

    def test_most_grows_where_more_are_at_work_than_ever_and_only_then(self):
        for many in range(1, 7):
            for at_work in range(many):
                hands = [("holds", box) for box in range(1, at_work + 1)] + [RESTS] * (many - at_work)
                for most in range(many + 1):
                    boxes = boxed(hands, most)[0]
                    begun = tuple(hands[:-1]) + (("tries", 1),)
                    self.steps((boxes, tuple(hands), most), many - 1, (boxes, begun, max(most, at_work + 1)))

    def test_most_stays_where_no_hand_begins(self):
        # More are at work than most: no weaving comes to it, and only a hand that begins is asked about most.
        hands = (("tries", 1), ("holds", 2), ("tries", 2))
        self.steps(((None, 1, None), hands, 0), 0, ((0, 1, None), (("holds", 1), *hands[1:]), 0))
        self.steps(((None, 1, None), hands, 1), 1, ((None, None, None), (hands[0], RESTS, hands[2]), 1))
        self.steps(((None, 1, None), hands, 2), 2, ((None, 1, None), (*hands[:2], ("tries", 3)), 2))

    def test_each_box_free_and_taken(self):
        for many in range(2, 7):
            for box in range(1, many + 1):
                tries = (("tries", box),) + (RESTS,) * (many - 1)
                self.steps(boxed(tries, 2), 0, boxed((("holds", box),) + tries[1:], 2))
                taken = (("tries", box), ("holds", box)) + (RESTS,) * (many - 2)
                on = (("tries", box + 1),) + taken[1:]
                self.steps(boxed(taken, 2), 0, None if box == many else boxed(on, 2))

    def test_a_box_that_there_is_not(self):
        for many in range(2, 7):
            for hand, holder in itertools.permutations(range(many), 2):
                hands = [RESTS] * many
                hands[hand], hands[holder] = ("tries", many), ("holds", many)
                self.steps(boxed(hands, many), hand, None)

    def test_giving_back_each_box(self):
        for many in range(1, 7):
            for box in range(1, many + 1):
                for hand in range(many):
                    hands = [RESTS] * many
                    hands[hand] = ("holds", box)
                    self.steps(boxed(hands, many), hand, boxed([RESTS] * many, many))

    def test_all_stands_of_up_to_three_hands(self):
        for many in (1, 2, 3):
            for hands in itertools.product(heres(many), repeat=many):
                held = [here for here in hands if here[0] == "holds"]
                if len(held) == len(set(held)):
                    for most in range(many + 1):
                        for hand in range(many):
                            stand = boxed(hands, most)
                            self.steps(stand, hand, behind(stand, hand))

    def test_drawn_stands(self):
        chance = random.Random(41)
        refused = 0
        for many in range(1, 7):
            for turn in range(300):
                for stand in (drawn_boxed(chance, many), drawn_let(chance, many)):
                    for hand in range(many):
                        expected = behind(stand, hand)
                        refused += expected is None
                        self.steps(stand, hand, expected)
        self.assertGreater(refused, 20)

    def test_weavings_from_the_first_stand(self):
        chance = random.Random(40)
        for many in range(1, 7):
            for turn in range(10):
                stand = first_row(many)
                most = 0
                for step in range(200):
                    hand = chance.randrange(many)
                    expected = behind(stand, hand)
                    self.assertIsNotNone(expected)
                    self.steps(stand, hand, expected)
                    stand = expected
                    most = max(most, working(stand[1]))
                    assert_same(self, stand[2], most)


class Names(unittest.TestCase):
    def test_written_out(self):
        for many in range(1, 7):
            assert_told(self, (None,) * many, row_names, first_row(many))
        hands = [("holds", 3), RESTS, ("tries", 3), ("holds", 1)]
        assert_told(self, (3, None, None, 1), row_names, boxed(hands, 4))
        assert_told(self, (6, 5, 4, 3, 2, 1), row_names, boxed([("holds", box) for box in range(6, 0, -1)], 6))

    def test_each_place(self):
        for many in range(1, 7):
            for hand in range(many):
                for here in heres(many):
                    hands = [RESTS] * many
                    hands[hand] = here
                    expected = [None] * many
                    if here[0] == "holds":
                        expected[hand] = here[1]
                    assert_told(self, tuple(expected), row_names, boxed(hands, many))


if __name__ == "__main__":
    unittest.main()
