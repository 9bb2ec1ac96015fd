"""What is promised of nets, from each stand that is let by, whoever wrote it."""

import random
import unittest

from handnames.netchecker import lets_net, net_left, net_names
from handnames.nets import first_net, step_net
from net_model import all_let, drawn_let
from test_nets import SIZES
from weavings import Asked, assert_goes_on, assert_one_step, assert_promised


def working(stand):
    return len([here for here in stand[1] if here != ((), "out")])


def asked(size, many):
    return Asked(
        many,
        lambda stand: lets_net(size, many, stand),
        lambda stand, hand: step_net(size, stand, hand),
        lambda stand: net_names(size, stand),
        lambda stand, hand: net_left(size, stand, hand),
        lambda stand: working(stand) * (working(stand) + 1) // 2,
    )


class Promised(unittest.TestCase):
    def trails_are_short(self, stands):
        for stand in stands:
            longest = max(len(trail) for trail, word in stand[1])
            self.assertLessEqual(longest, max(0, working(stand) - 1), stand)

    def test_all_stands_of_small_nets(self):
        chance = random.Random(5)
        for size, many in ((1, 1), (2, 1), (2, 2), (3, 1), (3, 2), (4, 2)):
            stands = list(all_let(size, many))
            self.trails_are_short(stands)
            assert_promised(self, asked(size, many), chance, stands)

    def test_three_hands(self):
        chance = random.Random(6)
        stands = list(all_let(3, 3))
        self.trails_are_short(stands)
        assert_promised(self, asked(3, 3), chance, chance.sample(stands, 1500))

    def test_drawn_stands(self):
        chance = random.Random(7)
        for size, many in SIZES:
            stands = [drawn_let(chance, size, many) for turn in range(100)]
            self.trails_are_short(stands)
            assert_promised(self, asked(size, many), chance, stands)

    def test_weavings_from_the_first_stand(self):
        chance = random.Random(8)
        for size, many in SIZES:
            machine = asked(size, many)
            for turn in range(15):
                stand = first_net(size, many)
                going = [hand for hand in range(many) if chance.random() < 0.8] or [0]
                for step in range(6 * many):
                    stand = assert_one_step(self, machine, stand, chance.choice(going))
                    self.trails_are_short([stand])
                assert_goes_on(self, machine, chance, stand, chance.randrange(many))

    def test_names_as_small_as_the_hands_at_work_are_few(self):
        chance = random.Random(9)
        for many in range(1, 6):
            stand = first_net(5, 5)
            for step in range(100 * many):
                stand = assert_one_step(self, asked(5, 5), stand, chance.randrange(many))
            names = net_names(5, stand)
            self.assertLessEqual(max(names[:many]), many * (many + 1) // 2)
            self.assertEqual(names[many:], (None,) * (5 - many))


if __name__ == "__main__":
    unittest.main()
