"""handnames.rowchecker: what is let by as a stand of a row, and counts."""

import itertools
import random
import unittest

from checked import Checked
from handnames.rowchecker import lets_row, row_left
from handnames.rows import first_row, row_names, step_row
from plain_things import ODD, assert_told, swapped
from row_model import all_let, all_stands, boxed, drawn_boxed, drawn_let, fault_of, found_stands, heres
from weavings import Asked, assert_goes_on, assert_one_step, assert_promised

RESTS = ("rests",)


class Rows(Checked):
    checker = staticmethod(lets_row)
    model = staticmethod(fault_of)


class LetBy(Rows):
    def test_first_stands(self):
        for many in range(1, 7):
            self.lets(many, first_row(many))

    def test_all_at_rest_whatever_most_is(self):
        for many in range(1, 7):
            for most in range(many + 1):
                self.lets(many, boxed([RESTS] * many, most))

    def test_written_out(self):
        for stand in [
            ((0,), (("holds", 1),), 1), ((None,), (("tries", 1),), 1),
            ((None, 0), (("holds", 2), RESTS), 2), ((1, None), (("tries", 2), ("holds", 1)), 2),
            ((None, None, None), (("tries", 3), ("tries", 2), ("tries", 1)), 3),
            ((None, None, 2, None, None, 0), (("holds", 6), ("tries", 4), ("holds", 3), ("tries", 5), ("tries", 1),
                                              ("tries", 2)), 6),
        ]:
            self.lets(len(stand[0]), stand)

    def test_all_stands_of_up_to_three_hands(self):
        for many, count in ((1, 12), (2, 675), (3, 87808)):
            stands = list(all_stands(many))
            self.assertEqual(len(stands), count)
            faults = {self.told(many, stand) for stand in stands}
            if many == 3:
                expected = [(word, box) for word in ("twice", "box") for box in (1, 2, 3)]
                self.assertEqual(faults, {None, ("most", 0), ("many", 2), ("many", 3), *expected})

    def test_those_that_weavings_come_to_are_let_by(self):
        for many, count in ((1, 4), (2, 26), (3, 269), (4, 3962)):
            found = found_stands(many)
            self.assertEqual((len(found), found), (count, set(all_let(many))))
            for stand in found:
                self.assertIs(lets_row(many, stand), True)

    def test_drawn_ones_to_which_no_weaving_was_made(self):
        chance = random.Random(43)
        for many in range(1, 7):
            for turn in range(300):
                self.lets(many, drawn_let(chance, many))


class Faults(Rows):
    def test_most(self):
        for many in range(1, 7):
            for at_work in range(many + 1):
                hands = [("tries", 1)] * at_work + [RESTS] * (many - at_work)
                held = [("holds", box) for box in range(1, at_work + 1)] + [RESTS] * (many - at_work)
                for most in range(many + 1):
                    for here in (hands, held):
                        if most < at_work:
                            self.refuses(many, boxed(here, most), "most", 0)
                        else:
                            self.lets(many, boxed(here, most))

    def test_twice(self):
        for many in range(2, 7):
            for one, other in itertools.combinations(range(many), 2):
                for box in range(1, many + 1):
                    hands = [RESTS] * many
                    hands[one] = hands[other] = ("holds", box)
                    for mark in [None, *range(many)]:
                        boxes = [None] * many
                        boxes[box - 1] = mark
                        self.refuses(many, (tuple(boxes), tuple(hands), many), "twice", box)

    def test_box(self):
        for many in range(1, 7):
            for hand in range(many):
                for here in heres(many):
                    hands = [RESTS] * many
                    hands[hand] = here
                    boxes, due, most = boxed(hands, many)
                    for box in range(1, many + 1):
                        for mark in [None, *range(many)]:
                            if mark != boxes[box - 1]:
                                wrong = boxes[:box - 1] + (mark,) + boxes[box:]
                                self.refuses(many, (wrong, due, most), "box", box)

    def test_box_by_box_twice_ahead_of_box(self):
        two = ("holds", 2)
        self.refuses(4, ((None, 0, None, None), (two, two, ("holds", 1), RESTS), 4), "box", 1)
        self.refuses(4, ((3, 0, None, None), (two, two, RESTS, RESTS), 4), "box", 1)
        self.refuses(4, ((None, 3, None, None), (two, two, RESTS, RESTS), 4), "twice", 2)
        self.refuses(4, ((None, None, None, 0), (two, two, RESTS, RESTS), 4), "twice", 2)
        self.refuses(4, ((None, None, None, 0), (two, RESTS, RESTS, RESTS), 4), "box", 2)
        three = ("holds", 3)
        self.refuses(4, ((None, None, 2, None), (two, two, three, three), 4), "twice", 2)
        self.refuses(4, ((None, None, 2, None), (two, RESTS, three, three), 4), "box", 2)
        self.refuses(4, ((None, 0, None, 3), (two, RESTS, three, three), 4), "twice", 3)

    def test_the_least_box_that_is_wrong(self):
        for many in range(2, 7):
            for low, high in itertools.combinations(range(1, many + 1), 2):
                boxes = [None] * many
                boxes[low - 1], boxes[high - 1] = 0, 1
                self.refuses(many, (tuple(boxes), (RESTS,) * many, many), "box", low)

    def test_many(self):
        self.refuses(2, boxed([("tries", 2), ("tries", 2)], 2), "many", 2)
        self.refuses(2, boxed([("tries", 2), ("holds", 2)], 2), "many", 2)
        self.refuses(2, boxed([("tries", 2), RESTS], 1), "many", 2)
        self.refuses(2, boxed([("holds", 2), RESTS], 1), "many", 2)
        self.refuses(3, boxed([("tries", 2), ("holds", 2), ("tries", 3)], 3), "many", 2)
        self.refuses(3, boxed([("tries", 1), ("holds", 3), ("tries", 3)], 3), "many", 3)
        self.lets(3, boxed([("tries", 1), ("holds", 3), ("tries", 2)], 3))

    def test_many_by_each_most_and_box(self):
        for many in range(1, 7):
            for most in range(1, many + 1):
                for box in range(1, many + 1):
                    for there in range(1, most + 1):
                        hands = [("tries", box)] * there + [RESTS] * (many - there)
                        # The first box at which fewer have room than are there, up to the one that they try.
                        full = [i for i in range(1, box + 1) if max(0, most - i + 1) < there]
                        if full:
                            self.refuses(many, boxed(hands, most), "many", full[0])
                        else:
                            self.lets(many, boxed(hands, most))

    def test_below_nought_there_is_room_for_none(self):
        # most - i + 1 is 1, 0, -1, -2 ..; a hand at box 6 is one too many from box 2 on.
        self.refuses(6, boxed([("tries", 6)] + [RESTS] * 5, 1), "many", 2)
        for most in range(5):
            self.lets(6, boxed([RESTS] * 6, most))
            hands = [("tries", 1)] * min(1, most) + [RESTS] * (6 - min(1, most))
            self.lets(6, boxed(hands, most))

    def test_most_ahead_of_boxes_ahead_of_many(self):
        self.refuses(3, ((2, None, None), (("holds", 1), ("holds", 1), RESTS), 1), "most", 0)
        self.refuses(3, ((None, None, 0), (("tries", 3), ("tries", 3), RESTS), 1), "most", 0)
        self.refuses(3, ((None, None, 0), (("tries", 3), ("tries", 3), RESTS), 2), "box", 3)
        self.refuses(3, ((None, None, 0), (("holds", 3), ("holds", 3), RESTS), 2), "twice", 3)
        self.refuses(3, ((None, None, 0), (("holds", 3), ("tries", 3), RESTS), 2), "many", 2)

    def test_drawn_stands(self):
        chance = random.Random(44)
        seen = {}
        for many in range(1, 7):
            for turn in range(500):
                fault = self.told(many, self.spoiled(chance, many) if turn % 3 else drawn_boxed(chance, many))
                seen[fault and fault[0]] = seen.get(fault and fault[0], 0) + 1
        self.assertEqual(set(seen), {None, "most", "twice", "box", "many"})
        self.assertGreater(min(seen.values()), 20)

    def spoiled(self, chance, many):
        """A stand without a fault, with what one hand is at drawn anew, perhaps its box with it."""
        boxes, hands, most = drawn_let(chance, many)
        hand = chance.randrange(many)
        hands = hands[:hand] + (chance.choice(heres(many)),) + hands[hand + 1:]
        return boxed(hands, most) if chance.random() < 0.7 else (boxes, hands, most)


class Shapes(Rows):
    def test_odd_things(self):
        for many in range(1, 7):
            for odd in ODD + [0, 1, (), ((), (), 0), [(), (), 0], "row"]:
                self.refuses(many, odd, "shape", 0)

    def test_any_part_swapped(self):
        known = {repr(stand) for stand in all_stands(2)}
        seen = 0
        for stand in [first_row(2), boxed([("holds", 1), ("tries", 2)], 2), boxed([RESTS, ("holds", 2)], 2)]:
            for odd in ODD + [0, 1, 2, 3, (), (0,), "rests", "tries", "holds", "out", ("tries", 1), ("tries", 3),
                              ("holds", 2), ("rests", 1), ("holds", 0)]:
                for thing in swapped(stand, odd):
                    seen += 1
                    if repr(thing) in known:
                        self.told(2, thing)
                    else:
                        self.refuses(2, thing, "shape", 0)
        self.assertGreater(seen, 800)

    def test_lists_in_place_of_tuples(self):
        boxes, hands, most = boxed([("holds", 1), ("tries", 2), RESTS], 2)
        self.lets(3, (boxes, hands, most))
        for thing in [
            [boxes, hands, most], (list(boxes), hands, most), (boxes, list(hands), most), (boxes, hands, [most]),
            (boxes, (["holds", 1],) + hands[1:], most), (boxes, (hands[0], ["tries", 2], RESTS), most),
            (boxes, hands[:2] + (["rests"],), most), (([0],) + boxes[1:], hands, most),
        ]:
            self.refuses(3, thing, "shape", 0)

    def test_truths_in_place_of_numbers(self):
        self.refuses(1, ((False,), (("holds", 1),), 1), "shape", 0)
        self.refuses(1, ((0,), (("holds", True),), 1), "shape", 0)
        self.refuses(1, ((0,), (("holds", 1),), True), "shape", 0)
        self.refuses(1, ((None,), (RESTS,), False), "shape", 0)
        self.refuses(2, ((None, None), (RESTS, ("tries", True)), 1), "shape", 0)
        self.refuses(2, ((True, None), (RESTS, ("holds", 1)), 1), "shape", 0)

    def test_numbers_out_of_their_bounds(self):
        for many in range(1, 7):
            none, rest = (None,) * (many - 1), (RESTS,) * (many - 1)
            for box in (0, -1, many + 1, 10 ** 39, None, "1", (1,)):
                for word in ("tries", "holds"):
                    self.refuses(many, ((None,) + none, ((word, box),) + rest, many), "shape", 0)
            for mark in (many, -1, many + 1, -many, 10 ** 39, "0", (0,)):
                self.refuses(many, ((mark,) + none, (RESTS,) + rest, many), "shape", 0)
            for most in (-1, many + 1, 10 ** 39, None, "0", (0,), []):
                self.refuses(many, ((None,) + none, (RESTS,) + rest, most), "shape", 0)

    def test_words(self):
        for odd in ODD + ["out", "rest", "Rests", "looks", 0, ("rests",)]:
            self.refuses(2, ((None, None), (RESTS, (odd, 1)), 2), "shape", 0)
            self.refuses(2, ((None, None), (RESTS, (odd,)), 2), "shape", 0)
        for here in [(), ("rests", 1), ("rests", None), ("tries",), ("holds",), ("tries", 1, 1), ("holds", 1, 1),
                     "rests", None, (("rests",),), ("tries", (1,))]:
            self.refuses(2, ((None, None), (RESTS, here), 2), "shape", 0)

    def test_parts_more_or_fewer(self):
        for many in range(1, 7):
            boxes, hands, most = first_row(many)
            for thing in [
                (), (boxes,), (boxes, hands), (boxes, hands, most, most), (hands, boxes, most), (most, boxes, hands),
                (boxes[1:], hands, most), (boxes, hands[1:], most), (boxes + (None,), hands, most),
                (boxes, hands + (RESTS,), most), (boxes + (None,), hands + (RESTS,), most), ((), (), 0),
                ((boxes, hands, most),),
            ]:
                self.refuses(many, thing, "shape", 0)
            for other in range(1, 7):
                if other != many:
                    self.refuses(many, first_row(other), "shape", 0)

    def test_ahead_of_all_other_faults(self):
        self.refuses(3, ((2, None, None), (("holds", 1), ("holds", 1), ("rests", 1)), 1), "shape", 0)
        self.refuses(3, ((2, None, True), (("holds", 1), ("holds", 1), RESTS), 0), "shape", 0)
        self.refuses(3, ((None, None, None), (("tries", 1), ("tries", 4), RESTS), 0), "shape", 0)


class Counts(unittest.TestCase):
    def test_of_each_hand(self):
        for many in range(1, 7):
            for hand in range(many):
                for here in heres(many):
                    hands = [RESTS] * many
                    hands[hand] = here
                    boxes_left = {"rests": many + 1, "holds": 0}
                    left = boxes_left[here[0]] if here[0] in boxes_left else len(range(here[1], many + 1))
                    assert_told(self, left, row_left, boxed(hands, many), hand)

    def test_written_out(self):
        stand = boxed([RESTS, ("tries", 1), ("tries", 4), ("holds", 3)], 4)
        for hand, left in enumerate((5, 4, 1, 0)):
            assert_told(self, left, row_left, stand, hand)


def asked(many):
    return Asked(many, lambda stand: lets_row(many, stand), step_row, row_names, row_left, lambda stand: stand[2],
                 gives_back=True)


class Promised(unittest.TestCase):
    """From each stand that is let by, whoever wrote it: each hand makes a step there."""

    def test_all_stands_of_up_to_three_hands(self):
        chance = random.Random(45)
        for many in (1, 2, 3):
            assert_promised(self, asked(many), chance, all_let(many))

    def test_some_stands_of_four_hands(self):
        chance = random.Random(46)
        assert_promised(self, asked(4), chance, chance.sample(all_let(4), 1500))

    def test_drawn_stands(self):
        chance = random.Random(47)
        for many in range(1, 7):
            assert_promised(self, asked(many), chance, [drawn_let(chance, many) for turn in range(300)])

    def test_some_hundred_steps_from_the_first_stand(self):
        chance = random.Random(48)
        for many in range(1, 7):
            for turn in range(6):
                self.some_hundred_steps(chance, many, 400)

    def some_hundred_steps(self, chance, many, steps):
        machine, stand, most = asked(many), first_row(many), 0
        given_back, taken_again = set(), set()
        for step in range(steps):
            hand = chance.randrange(many)
            ahead = row_names(stand)[hand]
            stand = assert_one_step(self, machine, stand, hand)
            most = max(most, len([here for here in stand[1] if here != RESTS]))
            names = [name for name in row_names(stand) if name is not None]
            self.assertEqual(len(names), len(set(names)))
            self.assertLessEqual(max(names, default=0), most)
            self.assertEqual(stand[2], most)
            if ahead is not None:
                given_back.add(ahead)
            elif row_names(stand)[hand] in given_back:
                taken_again.add(row_names(stand)[hand])
        self.assertIn(1, taken_again)
        assert_goes_on(self, machine, chance, stand, chance.randrange(many))

    def test_a_name_that_is_given_back_is_taken_again_by_another_hand(self):
        for many in range(2, 7):
            stand = first_row(many)
            for hand in range(many):
                for step in range(hand + 2):
                    stand = step_row(stand, hand)
            self.assertEqual(row_names(stand), tuple(range(1, many + 1)))
            for hand in (1, 0, 1, 1):
                stand = assert_one_step(self, asked(many), stand, hand)
            self.assertEqual(row_names(stand), (None, 1, *range(3, many + 1)))


if __name__ == "__main__":
    unittest.main()
