"""Weavings of deciders from the first stand, some hands stopping for ever."""

import random
import unittest

from handnames.deciders import first_decider, found_deciders, is_decider, step_decider
from handnames.errors import NoStep


class Weavings(unittest.TestCase):
    def keeps(self, stand):
        words = stand[2]
        self.assertIs(is_decider(len(words), stand), True)
        self.assertLessEqual(words.count("holds"), 1, stand)
        came = [word for word in words if word != "out"]
        if came:
            self.assertNotEqual(came.count("right"), len(came), stand)
            self.assertNotEqual(came.count("down"), len(came), stand)

    def weave(self, chance, many):
        """One weaving: each hand stops for ever behind a number of its own of steps, perhaps none."""
        stand = first_decider(many)
        left = [chance.choice((0, 1, 2, 3, 9, 9, 9)) for hand in range(many)]
        made = [0] * many
        while any(left):
            hand = chance.choice([hand for hand in range(many) if left[hand]])
            try:
                stand = step_decider(stand, hand)
            except NoStep as refusal:
                self.assertEqual(refusal.hand, hand)
                self.assertIn(stand[2][hand], ("holds", "right", "down"))
                left[hand] = 0
                continue
            made[hand] += 1
            left[hand] -= 1
            self.assertLessEqual(made[hand], 4)
            self.keeps(stand)
        return stand, made

    def test_many_weavings(self):
        chance = random.Random(20)
        for many in range(1, 7):
            for turn in range(1500):
                self.weave(chance, many)

    def test_a_hand_that_goes_on_comes_to_an_end_whatever_the_others_do(self):
        chance = random.Random(21)
        for many in range(1, 7):
            for turn in range(300):
                stand, made = self.weave(chance, many)
                for hand in range(many):
                    self.goes_on(stand, hand, made[hand])

    def goes_on(self, stand, hand, made):
        while stand[2][hand] not in ("holds", "right", "down"):
            stand = step_decider(stand, hand)
            made += 1
            self.keeps(stand)
        self.assertLessEqual(made, 4)
        with self.assertRaises(NoStep):
            step_decider(stand, hand)

    def test_all_weavings_of_up_to_three_hands(self):
        for many in (1, 2, 3):
            for stand in found_deciders(many):
                self.keeps(stand)

    def test_one_behind_the_other(self):
        for many in range(1, 7):
            stand = first_decider(many)
            for hand in range(many):
                for step in range(4 if hand == 0 else 2):
                    stand = step_decider(stand, hand)
            self.assertEqual(stand, (many - 1, True, ("holds",) + ("right",) * (many - 1)))

    def test_all_in_step(self):
        for many in range(1, 7):
            stand = first_decider(many)
            for step in range(4):
                for hand in range(many):
                    stand = step_decider(stand, hand)
            self.assertEqual(stand, (many - 1, True, ("down",) * (many - 1) + ("holds",)))


if __name__ == "__main__":
    unittest.main()
