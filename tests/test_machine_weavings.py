"""What is promised of machines of each kind, from stands that are let by, whoever wrote them."""

import random
import unittest

from handnames.errors import NoStand
from handnames.levelchecker import levels_left
from handnames.machines import at_work, bound, first, lets_stand, moving, names, stepped, woven
from handnames.netchecker import net_left
from handnames.rowchecker import row_left
from plain_things import every_stand
from test_machines import DECIDERS, LEVELS, MACHINES, NETS, ROWS, drawn_let, fault_of, hands_of
from weavings import Asked, assert_goes_on, assert_kept, assert_promised

DECIDER_LEFT = {"out": 4, "ask": 3, "close": 2, "look": 1, "holds": 0, "right": 0, "down": 0}


def asked(machine):
    kind = machine[0]
    left = {
        "decider": lambda stand, hand: DECIDER_LEFT[stand[2][hand]],
        "net": lambda stand, hand: net_left(machine[1], stand, hand),
        "levels": levels_left,
        "row": row_left,
    }[kind]
    done = (lambda stand, hand: stand[2][hand] in ("holds", "right", "down")) if kind == "decider" else None
    return Asked(
        hands_of(machine),
        lambda stand: lets_stand(machine, stand),
        lambda stand, hand: stepped(machine, stand, hand),
        lambda stand: names(machine, stand),
        left,
        lambda stand: bound(machine, stand[2] if kind == "row" else at_work(machine, stand)),
        done,
        kind == "row",
    )


class Promised(unittest.TestCase):
    def test_all_stands_of_deciders(self):
        chance = random.Random(60)
        for machine in DECIDERS[:3]:
            stands = [stand for stand in every_stand(machine[1]) if fault_of(machine, stand) is None]
            assert_promised(self, asked(machine), chance, stands)

    def test_drawn_stands(self):
        chance = random.Random(61)
        for machine in MACHINES:
            assert_promised(self, asked(machine), chance, [drawn_let(chance, machine) for turn in range(80)])

    def test_of_the_hands_that_came_to_a_decider_not_all_went_right_nor_all_down(self):
        for machine in DECIDERS[:3]:
            for stand in every_stand(machine[1]):
                came = {word for word in stand[2] if word != "out"}
                if came in ({"right"}, {"down"}):
                    with self.assertRaises(NoStand):
                        lets_stand(machine, stand)

    def test_each_hand_goes_on_whoever_is_stopped_for_ever(self):
        chance = random.Random(63)
        for machine in MACHINES:
            many = hands_of(machine)
            for turn in range(10):
                weaving = tuple(chance.randrange(many) for step in range(chance.randrange(10 * many)))
                stand = woven(machine, first(machine), weaving)
                assert_kept(self, asked(machine), stand)
                for hand in range(many):
                    assert_goes_on(self, asked(machine), chance, stand, hand)

    def test_each_alone(self):
        for machine in MACHINES:
            for hand in range(hands_of(machine)):
                ways = asked(machine)
                stand = first(machine)
                made = 0
                while not ways.done(stand, hand):
                    stand = stepped(machine, stand, hand)
                    made += 1
                self.assertLessEqual(made, ways.left(first(machine), hand))
                self.assertEqual(names(machine, stand)[hand], 1)
                self.assertEqual(at_work(machine, stand), 1)

    def test_all_hold_in_the_end(self):
        chance = random.Random(64)
        for machine in NETS + LEVELS:
            many = hands_of(machine)
            for turn in range(10):
                stand = woven(machine, first(machine), tuple(chance.randrange(many) for step in range(20 * many)))
                stand = woven(machine, stand, tuple(range(many)) * 40)
                self.assertEqual(moving(machine, stand), [])
                held = names(machine, stand)
                self.assertEqual(len(set(held) - {None}), many)
                self.assertLessEqual(max(held), bound(machine, many))

    def test_in_a_row_each_hand_always_makes_a_step(self):
        chance = random.Random(65)
        for machine in ROWS:
            many = hands_of(machine)
            for turn in range(100):
                self.assertEqual(moving(machine, drawn_let(chance, machine)), list(range(many)))


if __name__ == "__main__":
    unittest.main()
