"""handnames.levelchecker: what is let by as a stand of levels, and counts."""

import itertools
import random
import unittest

from checked import Checked
from handnames.levelchecker import lets_levels, levels_left
from handnames.levels import first_levels, level_names, step_levels
from level_model import all_hands, all_let, boxed, drawn_boxed, drawn_let, fault_of, found_stands, heres
from plain_things import ODD, assert_told, swapped
from weavings import Asked, assert_goes_on, assert_one_step, assert_promised

OUT = ("out",)


def all_stands(many):
    """All STANDS, boxes as they should be or not."""
    boxes = [None, *range(1, many + 1)]
    return itertools.product(itertools.product(boxes, repeat=many), all_hands(many))


class Levels(Checked):
    checker = staticmethod(lets_levels)
    model = staticmethod(fault_of)


class LetBy(Levels):
    def test_first_stands(self):
        for many in range(1, 7):
            self.lets(many, first_levels(many))

    def test_written_out(self):
        for stand in [
            ((1,), (("look", 1),)), ((1,), (("holds", (0,)),)),
            ((2, None), (("look", 2), OUT)), ((2, 2), (("put", 1), ("look", 2))),
            ((1, 2), (("holds", (0,)), ("holds", (0, 1)))), ((2, 2), (("holds", (0, 1)), ("look", 2))),
            ((3, 1, 3), (("holds", (0, 1, 2)), ("look", 1), ("put", 2))),
            ((1, 6, 6, 4, 4, 4), (("holds", (0,)), ("put", 5), ("look", 6), ("holds", (0, 3, 4, 5)), ("look", 4),
                                  ("look", 4))),
        ]:
            self.lets(len(stand[0]), stand)

    def test_all_stands_of_up_to_three_hands(self):
        for many, count in ((1, 6), (2, 324), (3, 64000)):
            stands = list(all_stands(many))
            self.assertEqual(len(stands), count)
            faults = {self.told(many, stand) for stand in stands}
            if many == 3:
                expected = [("box", hand) for hand in range(3)] + [("many", 1), ("many", 2)]
                expected += [("view", hand) for hand in range(3)]
                self.assertEqual(faults, {None, *expected})

    def test_those_that_weavings_come_to_are_let_by(self):
        for many, count in ((1, 3), (2, 25), (3, 345), (4, 6649)):
            found = found_stands(many)
            self.assertEqual((len(found), found), (count, set(all_let(many))))
            for stand in found:
                self.assertIs(lets_levels(many, stand), True)

    def test_drawn_ones_to_which_no_weaving_was_made(self):
        chance = random.Random(33)
        for many in range(1, 7):
            for turn in range(300):
                self.lets(many, drawn_let(chance, many))


class Faults(Levels):
    def test_box_of_one_hand(self):
        for many in range(1, 7):
            for hand in range(many):
                for here in heres(many, hand):
                    hands = [OUT] * many
                    hands[hand] = here
                    boxes, due = boxed(hands)
                    for box in [None, *range(1, many + 1)]:
                        if box != boxes[hand]:
                            self.refuses(many, (boxes[:hand] + (box,) + boxes[hand + 1:], due), "box", hand)

    def test_box_written_out(self):
        self.refuses(2, ((1, None), (OUT, OUT)), "box", 0)
        self.refuses(2, ((None, 1), (OUT, OUT)), "box", 1)
        self.refuses(2, ((1, None), (("look", 2), OUT)), "box", 0)
        self.refuses(2, ((1, None), (("put", 1), OUT)), "box", 0)
        self.refuses(2, ((None, 2), (OUT, ("holds", (1,)))), "box", 1)
        self.refuses(2, ((2, 1), (("holds", (0, 1)), ("holds", (0, 1)))), "box", 1)

    def test_the_least_hand_whose_box_is_wrong(self):
        for many in range(2, 7):
            for low, high in itertools.combinations(range(many), 2):
                boxes = [None] * many
                boxes[low], boxes[high] = 1, many
                self.refuses(many, (tuple(boxes), (OUT,) * many), "box", low)

    def test_many(self):
        self.refuses(2, boxed([("look", 1), ("look", 1)]), "many", 1)
        self.refuses(2, boxed([("look", 1), ("put", 1)]), "many", 1)
        self.refuses(2, boxed([("put", 1), ("put", 1)]), "many", 1)
        self.refuses(2, boxed([("holds", (0,)), ("holds", (1,))]), "many", 1)
        self.refuses(3, boxed([("look", 2), ("put", 2), ("holds", (0, 2))]), "many", 2)
        self.refuses(4, boxed([("look", 1), ("put", 3), ("put", 2), ("look", 3)]), "many", 3)
        self.lets(4, boxed([("look", 1), ("look", 4), ("put", 2), ("look", 3)]))

    def test_many_at_each_level(self):
        for many in range(2, 7):
            for level in range(1, many):
                for here in (("look", level), ("put", level)):
                    hands = [here] * (level + 1) + [OUT] * (many - level - 1)
                    self.refuses(many, boxed(hands), "many", level)
                    self.lets(many, boxed([OUT] + hands[1:]))

    def test_one_that_puts_a_lower_level_counts_by_its_box(self):
        # Both boxes are of 3: at level 2 none of them, at level 1 the one that puts 1 has a box of 2.
        self.lets(3, boxed([("look", 3), ("put", 2), ("look", 3)]))
        self.refuses(3, boxed([("put", 1), ("put", 2), ("look", 2)]), "many", 2)
        self.refuses(3, boxed([("put", 1), ("put", 1), ("look", 3)]), "many", 1)

    def test_the_least_level(self):
        for many in range(3, 7):
            for level in range(1, many):
                hands = [("look", level)] * (level + 1) + [("look", many)] * (many - level - 1)
                self.refuses(many, boxed(hands), "many", level)
                self.refuses(many, boxed([("look", level)] * many), "many", level)

    def test_view(self):
        self.refuses(2, boxed([("holds", (0, 1)), OUT]), "view", 0)
        self.refuses(3, boxed([("look", 1), ("holds", (1, 2)), ("look", 3)]), "view", 1)
        self.refuses(3, boxed([("look", 3), ("look", 3), ("holds", (1, 2))]), "view", 2)
        self.lets(3, boxed([("look", 1), ("holds", (0, 1)), ("look", 3)]))

    def test_the_least_hand_whose_view_is_wrong(self):
        self.refuses(3, boxed([("holds", (0, 1)), OUT, ("holds", (0, 2))]), "view", 0)
        for many in range(2, 7):
            everybody = ("holds", tuple(range(many)))
            for wrong in range(many):
                hands = [everybody] * many
                hands[wrong] = OUT
                self.refuses(many, boxed(hands), "view", 1 if wrong == 0 else 0)

    def test_box_ahead_of_many_ahead_of_view(self):
        self.refuses(3, ((1, 1, 1), (("look", 1), ("look", 1), ("look", 2))), "box", 2)
        self.refuses(3, ((2, None, 1), (("holds", (0, 1)), OUT, OUT)), "box", 2)
        self.refuses(3, boxed([("holds", (0, 1)), ("look", 1), ("put", 1)]), "many", 1)
        self.refuses(3, boxed([("holds", (0, 2)), ("put", 2), ("put", 2)]), "many", 2)
        self.refuses(3, ((1, 2, 3), (("holds", (0, 1, 2)), OUT, OUT)), "box", 0)

    def test_drawn_stands(self):
        chance = random.Random(34)
        seen = {}
        for many in range(1, 7):
            for turn in range(500):
                fault = self.told(many, self.spoiled(chance, many) if turn % 3 else drawn_boxed(chance, many))
                seen[fault and fault[0]] = seen.get(fault and fault[0], 0) + 1
        self.assertGreater(min(seen.values()), 100)
        self.assertEqual(set(seen), {None, "box", "many", "view"})

    def spoiled(self, chance, many):
        """A stand without a fault, with what one hand is at drawn anew, perhaps its box with it."""
        boxes, hands = map(list, drawn_let(chance, many))
        hand = chance.randrange(many)
        hands[hand] = chance.choice(heres(many, hand))
        return boxed(hands) if chance.random() < 0.8 else (tuple(boxes), tuple(hands))


class Shapes(Levels):
    def test_odd_things(self):
        for many in range(1, 7):
            for odd in ODD + [0, 1, (), ((), ()), [(), ()], "stand"]:
                self.refuses(many, odd, "shape", 0)

    def test_any_part_swapped(self):
        known = {repr(stand) for stand in all_stands(2)}
        seen = 0
        for stand in [first_levels(2), boxed([("holds", (0, 1)), ("look", 2)]), boxed([("put", 1), OUT]),
                      boxed([("look", 2), ("holds", (0, 1))])]:
            for odd in ODD + [0, 1, 2, 3, (), (0,), (1,), (0, 1), (1, 0), "out", "look", "put", "holds", "rests",
                              ("look", 1), ("put", 2), ("look", 3), ("holds", ())]:
                for thing in swapped(stand, odd):
                    seen += 1
                    if repr(thing) in known:
                        self.told(2, thing)
                    else:
                        self.refuses(2, thing, "shape", 0)
        self.assertGreater(seen, 1000)

    def test_lists_in_place_of_tuples(self):
        boxes, hands = boxed([("holds", (0, 1, 2)), ("look", 3), ("put", 2)])
        self.lets(3, (boxes, hands))
        for thing in [
            [boxes, hands], (list(boxes), hands), (boxes, list(hands)), (boxes, (["holds", (0, 1, 2)],) + hands[1:]),
            (boxes, (("holds", [0, 1, 2]),) + hands[1:]), (boxes, (hands[0], ["look", 3], hands[2])),
            (boxes, hands[:2] + (["put", 2],)), ((None,) * 3, (["out"], OUT, OUT)),
        ]:
            self.refuses(3, thing, "shape", 0)

    def test_truths_in_place_of_numbers(self):
        self.refuses(1, ((True,), (("look", 1),)), "shape", 0)
        self.refuses(1, ((1,), (("look", True),)), "shape", 0)
        self.refuses(1, ((1,), (("holds", (False,)),)), "shape", 0)
        self.refuses(2, ((2, None), (("put", True), OUT)), "shape", 0)
        self.refuses(2, ((False, None), (OUT, OUT)), "shape", 0)
        self.refuses(2, ((2, 2), (("holds", (0, True)), ("look", 2))), "shape", 0)
        self.refuses(2, ((None, 1), (OUT, ("holds", (True,)))), "shape", 0)

    def test_levels_out_of_their_bounds(self):
        for many in range(1, 7):
            rest = (OUT,) * (many - 1)
            none = (None,) * (many - 1)
            for level in (0, -1, many + 1, many + 2, 10 ** 39, None, "1", (1,)):
                self.refuses(many, ((1,) + none, (("look", level),) + rest), "shape", 0)
                self.refuses(many, ((1,) + none, (("put", level),) + rest), "shape", 0)
                if level is not None:
                    self.refuses(many, ((level,) + none, (OUT,) + rest), "shape", 0)
            self.refuses(many, ((many,) + none, (("put", many),) + rest), "shape", 0)
            self.lets(many, ((many,) + none, (("look", many),) + rest))
            if many > 1:
                self.lets(many, ((many,) + none, (("put", many - 1),) + rest))

    def test_views(self):
        for view in [(), (0,), (2,), (0, 2), (1, 0), (2, 1), (1, 1), (0, 1, 1), (2, 1, 0), (0, 2, 1), (1, 3), (-1, 1),
                     (0, 1, 2, 3), (0, 1, None), (0, 1, "2"), ((1,),), "1", 1, None, [1], (1, (2,)), (0, 1, [])]:
            self.refuses(3, ((None, 1, None), (OUT, ("holds", view), OUT)), "shape", 0)
        self.lets(3, ((None, 1, None), (OUT, ("holds", (1,)), OUT)))
        for view in [(0, 1), (1, 2), (0, 1, 2)]:
            self.refuses(3, boxed([OUT, ("holds", view), OUT]), "view", 1)

    def test_words(self):
        for odd in ODD + ["rests", "tries", "ask", "Out", "looks", 0, ("out",)]:
            self.refuses(2, ((None, 2), (OUT, (odd, 2))), "shape", 0)
            self.refuses(2, ((None, None), (OUT, (odd,))), "shape", 0)
        for here in [(), ("out", 1), ("out", None), ("look",), ("put",), ("holds",), ("look", 2, 2), ("put", 1, 1),
                     ("holds", (1,), (1,)), "out", None, ("look", (1,)), ("holds", 1), (("out",),)]:
            self.refuses(2, ((None, None), (OUT, here)), "shape", 0)

    def test_parts_more_or_fewer(self):
        for many in range(1, 7):
            boxes, hands = first_levels(many)
            for thing in [
                (), (boxes,), (boxes, hands, ()), (boxes, hands, 0), (boxes[1:], hands), (boxes, hands[1:]),
                (boxes + (None,), hands), (boxes, hands + (OUT,)), (boxes + (None,), hands + (OUT,)), (hands, boxes),
                ((), ()), ((boxes, hands),),
            ]:
                self.refuses(many, thing, "shape", 0)
            for other in range(1, 7):
                if other != many:
                    self.refuses(many, first_levels(other), "shape", 0)

    def test_ahead_of_all_other_faults(self):
        self.refuses(3, ((1, 1, 1), (("look", 1), ("holds", (0, 1)), ("look", 4))), "shape", 0)
        self.refuses(3, ((1, 1, True), (OUT, OUT, OUT)), "shape", 0)
        self.refuses(3, ((1, 1, 4), (OUT, OUT, OUT)), "shape", 0)


class Counts(unittest.TestCase):
    def test_of_each_hand(self):
        for many in range(1, 7):
            for hand in range(many):
                for here in heres(many, hand):
                    hands = [OUT] * many
                    hands[hand] = here
                    left = {"out": lambda: many + many, "put": lambda: here[1] + here[1],
                            "look": lambda: here[1] + here[1] - 1, "holds": lambda: 0}[here[0]]()
                    assert_told(self, left, levels_left, boxed(hands), hand)

    def test_written_out(self):
        stand = boxed([OUT, ("put", 3), ("look", 3), ("holds", (1, 2, 3)), ("look", 5), ("put", 1)])
        for hand, left in enumerate((12, 6, 5, 0, 9, 2)):
            assert_told(self, left, levels_left, stand, hand)


def asked(greats):
    many = len(greats)

    def bound(stand):
        working = len([here for here in stand[1] if here != OUT])
        return working * (working + 1) // 2

    return Asked(many, lambda stand: lets_levels(many, stand), step_levels, lambda stand: level_names(greats, stand),
                 levels_left, bound)


class Promised(unittest.TestCase):
    """From each stand that is let by, whoever wrote it."""

    def greats(self, chance, many):
        return tuple(chance.sample(range(10 ** 9 + 1), many))

    def test_all_stands_of_up_to_three_hands(self):
        chance = random.Random(35)
        for many in (1, 2, 3):
            assert_promised(self, asked(self.greats(chance, many)), chance, all_let(many))

    def test_some_stands_of_four_hands(self):
        chance = random.Random(36)
        assert_promised(self, asked((9, 0, 10 ** 9, 4)), chance, chance.sample(all_let(4), 1500))

    def test_drawn_stands(self):
        chance = random.Random(37)
        for many in range(1, 7):
            for turn in range(30):
                stands = [drawn_let(chance, many) for again in range(10)]
                assert_promised(self, asked(self.greats(chance, many)), chance, stands)

    def test_weavings_from_the_first_stand(self):
        chance = random.Random(38)
        for many in range(1, 7):
            for turn in range(50):
                machine = asked(self.greats(chance, many))
                going = [hand for hand in range(many) if chance.random() < 0.8] or [0]
                stand = first_levels(many)
                for step in range(chance.randrange(2 * many * many)):
                    stand = assert_one_step(self, machine, stand, chance.choice(going))
                assert_goes_on(self, machine, chance, stand, chance.randrange(many))


if __name__ == "__main__":
    unittest.main()
