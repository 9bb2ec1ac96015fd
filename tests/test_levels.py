"""handnames.levels: the first stand, steps, names."""

import itertools
import random
import unittest

from handnames.errors import NoStep
from handnames.levels import first_levels, level_names, step_levels
from level_model import all_hands, behind, boxed, drawn_boxed, drawn_let, heres
from plain_things import assert_refused, assert_same, assert_told

OUT = ("out",)


class Steps(unittest.TestCase):
    def steps(self, stand, hand, expected):
        if expected is None:
            assert_refused(self, NoStep(hand), step_levels, stand, hand)
        else:
            assert_told(self, expected, step_levels, stand, hand)

    def test_first_stand(self):
        assert_told(self, ((None,), (("out",),)), first_levels, 1)
        assert_told(self, ((None, None), (("out",), ("out",))), first_levels, 2)
        for many in range(1, 7):
            assert_told(self, (tuple([None] * many), tuple([("out",)] * many)), first_levels, many)

    def test_a_hand_alone_of_one(self):
        stand = first_levels(1)
        self.steps(stand, 0, ((1,), (("look", 1),)))
        self.steps(((1,), (("look", 1),)), 0, ((1,), (("holds", (0,)),)))
        self.steps(((1,), (("holds", (0,)),)), 0, None)

    def alone(self, many, hand, box, here):
        """The first stand but for one hand."""
        boxes, hands = [None] * many, [OUT] * many
        boxes[hand], hands[hand] = box, here
        return (tuple(boxes), tuple(hands))

    def test_a_hand_alone_of_many_goes_all_the_way_down(self):
        for many in range(1, 7):
            for hand in range(many):
                come = [(None, OUT)]
                for level in range(many, 1, -1):
                    come += [(level, ("look", level)), (level, ("put", level - 1))]
                come += [(1, ("look", 1)), (1, ("holds", (hand,)))]
                stands = [self.alone(many, hand, box, here) for box, here in come]
                for stand, behind_it in zip(stands, stands[1:] + [None]):
                    self.steps(stand, hand, behind_it)

    def test_out_writes_the_number_of_hands(self):
        self.steps(((None, 2), (OUT, ("look", 2))), 0, ((2, 2), (("look", 2), ("look", 2))))
        self.steps(((1, None, 2), (("holds", (0,)), OUT, ("put", 1))), 1,
                   ((1, 3, 2), (("holds", (0,)), ("look", 3), ("put", 1))))

    def test_look_counts_the_boxes_of_at_most_its_level(self):
        looks = ("look", 2)
        # One's own box alone: one is fewer than two.
        self.steps(((2, None, 3), (looks, OUT, ("look", 3))), 0, ((2, None, 3), (("put", 1), OUT, ("look", 3))))
        # One's own and a lower one: just two.
        self.steps(((2, 1, 3), (looks, ("look", 1), ("look", 3))), 0,
                   ((2, 1, 3), (("holds", (0, 1)), ("look", 1), ("look", 3))))
        # One's own and one alike.
        self.steps(((3, 2, 2), (("put", 2), looks, looks)), 2, ((3, 2, 2), (("put", 2), looks, ("holds", (1, 2)))))
        # Three are more than two: it holds with all of them.
        self.steps(((2, 2, 2), (looks, looks, looks)), 1, ((2, 2, 2), (looks, ("holds", (0, 1, 2)), looks)))
        # One that puts is still counted by its box alone.
        self.steps(((3, 2, None), (("put", 2), looks, OUT)), 1, ((3, 2, None), (("put", 2), ("put", 1), OUT)))

    def test_a_view_is_rising_and_has_the_hand_itself(self):
        for many in range(1, 7):
            stand = (tuple([many] * many), tuple([("look", many)] * many))
            for hand in range(many):
                expected = list(stand[1])
                expected[hand] = ("holds", tuple(range(many)))
                self.steps(stand, hand, (stand[0], tuple(expected)))

    def test_put_writes_its_level_and_looks_again(self):
        for many in range(2, 7):
            for level in range(1, many):
                hands = [OUT] * (many - 1) + [("put", level)]
                boxes = (None,) * (many - 1)
                self.steps((boxes + (level + 1,), tuple(hands)), many - 1,
                           (boxes + (level,), tuple(hands[:-1]) + (("look", level),)))

    def test_who_holds_makes_no_step(self):
        for many in range(1, 7):
            for hand in range(many):
                for here in heres(many, hand):
                    if here[0] == "holds":
                        hands = [OUT] * many
                        hands[hand] = here
                        self.steps(boxed(hands), hand, None)

    def test_all_stands_of_up_to_three_hands(self):
        for many in (1, 2, 3):
            for stand in map(boxed, all_hands(many)):
                for hand in range(many):
                    self.steps(stand, hand, behind(stand, hand))

    def test_drawn_stands(self):
        chance = random.Random(31)
        for many in range(1, 7):
            for turn in range(300):
                for stand in (drawn_boxed(chance, many), drawn_let(chance, many)):
                    for hand in range(many):
                        self.steps(stand, hand, behind(stand, hand))

    def test_weavings_from_the_first_stand(self):
        chance = random.Random(30)
        for many in range(1, 7):
            for turn in range(60):
                stand = first_levels(many)
                for step in range(6 * many):
                    hand = chance.randrange(many)
                    expected = behind(stand, hand)
                    self.steps(stand, hand, expected)
                    stand = stand if expected is None else expected


class Names(unittest.TestCase):
    def test_written_out(self):
        greats = (50, 7, 1000000000, 0)
        for hands, expected in [
            ([OUT, OUT, OUT, OUT], (None,) * 4),
            ([("holds", (0,)), OUT, OUT, OUT], (1, None, None, None)),
            ([("holds", (0, 1)), ("holds", (1,)), ("look", 4), OUT], (3, 1, None, None)),
            ([("holds", (0, 1)), ("holds", (0, 1)), ("put", 3), ("look", 4)], (3, 2, None, None)),
            ([("holds", (0, 1, 3)), ("holds", (0, 1, 3)), ("look", 4), ("holds", (0, 1, 3))], (6, 5, None, 4)),
            ([("holds", (0, 1, 2, 3))] * 4, (9, 8, 10, 7)),
            ([("look", 4), OUT, ("holds", (2,)), ("holds", (2, 3))], (None, None, 1, 2)),
        ]:
            assert_told(self, expected, level_names, greats, boxed(hands))

    def test_one_hand(self):
        for great in (0, 1, 10 ** 9):
            assert_told(self, (1,), level_names, (great,), ((1,), (("holds", (0,)),)))
            assert_told(self, (None,), level_names, (great,), ((1,), (("look", 1),)))
            assert_told(self, (None,), level_names, (great,), first_levels(1))

    def test_all_in_one_view_in_any_order_of_great_names(self):
        for many in range(1, 7):
            stand = boxed([("holds", tuple(range(many)))] * many)
            base = many * (many - 1) // 2
            for greats in itertools.permutations((0, 3, 4, 90, 91, 10 ** 9)[:many]):
                expected = tuple(base + 1 + sorted(greats).index(great) for great in greats)
                assert_told(self, expected, level_names, greats, stand)

    def test_drawn_stands(self):
        chance = random.Random(32)
        for many in range(1, 7):
            for turn in range(300):
                stand = drawn_let(chance, many) if turn % 2 else drawn_boxed(chance, many)
                greats = tuple(chance.sample(range(10 ** 9 + 1), many))
                assert_told(self, tuple(map(self.name(greats, stand), range(many))), level_names, greats, stand)

    def name(self, greats, stand):
        """A function from a hand to the name that is due."""
        def told(hand):
            here = stand[1][hand]
            if here[0] != "holds":
                return None
            ordered = sorted(greats[other] for other in here[1])
            return sum(range(len(ordered))) + ordered.index(greats[hand]) + 1
        return told

    def test_each_name_up_to_twenty_one_is_had(self):
        had = []
        for many in range(1, 7):
            hands = [("holds", tuple(range(many)))] * many + [OUT] * (6 - many)
            for lead in range(many):
                greats = tuple([*range(lead, many), *range(lead), *range(many, 6)])
                had.append(level_names(greats, boxed(hands))[0])
        self.assertEqual(had, list(range(1, 22)))

    def test_great_names_outside_of_the_view_do_not_matter(self):
        stand = boxed([("look", 3), ("holds", (1,)), OUT])
        for greats in itertools.permutations((1, 2, 3)):
            assert_same(self, level_names(greats, stand), (None, 1, None))


if __name__ == "__main__":
    unittest.main()
