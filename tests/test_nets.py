"""handnames.nets: the first stand, cells, local stands, steps."""

import random
import unittest

from handnames.errors import NoStep
from handnames.nets import cell_of, first_net, local_at, step_net
from net_model import HERE, WAYS, behind, cells, drawn_stand, trails, walk, words_at
from plain_things import assert_refused, assert_same, assert_told

SIZES = [(size, many) for size in range(1, 6) for many in range(1, size + 1)]


def net(size, hands, boxes):
    """A stand of these hands, with these boxes by the numbers of their cells, all other boxes as at first."""
    return (tuple(boxes.get(number, (None, False)) for number in range(size * (size + 1) // 2)), tuple(hands))


class FirstAndCells(unittest.TestCase):
    def test_first_stand(self):
        assert_told(self, (((None, False),), (((), "out"),)), first_net, 1, 1)
        assert_told(self, (((None, False), (None, False), (None, False)), (((), "out"), ((), "out"))), first_net, 2, 2)
        for size, many in SIZES:
            boxes = tuple([(None, False)] * [0, 1, 3, 6, 10, 15][size])
            assert_told(self, (boxes, tuple([((), "out")] * many)), first_net, size, many)

    def test_cell_of_written_out(self):
        for trail, cell in [
            ((), (0, 0)), (("right",), (0, 1)), (("down",), (1, 0)), (("right", "down"), (1, 1)),
            (("down", "right"), (1, 1)), (("right", "right"), (0, 2)), (("down", "down"), (2, 0)),
            (("right", "down", "right"), (1, 2)), (("down", "down", "right", "down"), (3, 1)),
            (("right",) * 4, (0, 4)), (("down",) * 4, (4, 0)),
        ]:
            for word in HERE:
                assert_told(self, cell, cell_of, (trail, word))

    def test_cell_of_each_trail(self):
        for trail in trails(5):
            for word in HERE:
                assert_told(self, walk(trail)[-1], cell_of, (trail, word))

    def test_numbers_of_cells_written_out(self):
        # Each mark stands at its own cell alone: (0, 0), (0, 1), (1, 0), (0, 2), (1, 1), (2, 0).
        ways = [(), ("right",), ("down",), ("right", "right"), ("right", "down"), ("down", "down")]
        for number, trail in enumerate(ways):
            stand = net(3, [(trail, "close")], {})
            for other in range(6):
                told = local_at(3, stand, other)
                self.assertEqual(told[2] == ("close",), number == other, (trail, other))


class Local(unittest.TestCase):
    def test_at_the_cell_passed_right_passed_down_never_there(self):
        hands = [((), "look"), (("right",), "holds"), (("down", "right"), "ask"), (("down", "down"), "out")]
        boxes = {0: (3, True), 1: (1, True), 2: (None, False), 4: (2, False)}
        stand = net(4, hands, boxes)
        for number, expected in [
            (0, (3, True, ("look", "right", "down", "down"))),
            (1, (1, True, ("out", "holds", "out", "out"))),
            (2, (None, False, ("out", "out", "right", "down"))),
            (3, (None, False, ("out", "out", "out", "out"))),
            (4, (2, False, ("out", "out", "ask", "out"))),
            (5, (None, False, ("out", "out", "out", "out"))),
            (9, (None, False, ("out", "out", "out", "out"))),
        ]:
            assert_told(self, expected, local_at, 4, stand, number)

    def test_two_trails_to_one_cell(self):
        hands = [(("right", "down"), "close"), (("down", "right"), "look")]
        stand = net(3, hands, {4: (1, True)})
        assert_told(self, (1, True, ("close", "look")), local_at, 3, stand, 4)
        assert_told(self, (None, False, ("down", "out")), local_at, 3, stand, 1)
        assert_told(self, (None, False, ("out", "right")), local_at, 3, stand, 2)
        assert_told(self, (None, False, ("right", "down")), local_at, 3, stand, 0)

    def test_each_trail_at_each_cell(self):
        for size in range(1, 6):
            for trail in trails(size):
                for word in HERE:
                    stand = net(size, [(trail, word)], {})
                    for number, cell in enumerate(cells(size)):
                        told = local_at(size, stand, number)
                        assert_same(self, told, (None, False, words_at(size, stand[1], cell)))

    def test_drawn_stands(self):
        chance = random.Random(22)
        for size, many in SIZES:
            for turn in range(40):
                stand = drawn_stand(chance, size, many)
                for number, cell in enumerate(cells(size)):
                    expected = (*stand[0][number], words_at(size, stand[1], cell))
                    assert_told(self, expected, local_at, size, stand, number)


class Steps(unittest.TestCase):
    def steps(self, size, stand, hand, expected):
        if expected is None:
            assert_refused(self, NoStep(hand), step_net, size, stand, hand)
        else:
            assert_told(self, expected, step_net, size, stand, hand)

    def test_each_word_at_the_first_cell(self):
        other = ((), "ask")
        for mark in (None, 0, 1):
            for closed in (False, True):
                box = (mark, closed)
                for word, box_behind, here in [
                    ("out", (1, closed), ((), "ask")),
                    ("ask", box, (("right",), "out") if closed else ((), "close")),
                    ("close", (mark, True), ((), "look")),
                    ("look", box, ((), "holds") if mark == 1 else (("down",), "out")),
                ]:
                    stand = net(2, [other, ((), word)], {0: box})
                    self.steps(2, stand, 1, net(2, [other, here], {0: box_behind}))
                self.steps(2, net(2, [other, ((), "holds")], {0: box}), 1, None)

    def one_step(self, size, many, hand, trail, word):
        """Each box at the hand's cell, all other hands and boxes staying as they are."""
        number = cells(size).index(walk(trail)[-1])
        others = [((), "look")] * many
        for mark in [None, *range(many)]:
            for closed in (False, True):
                hands = others[:hand] + [(trail, word)] + others[hand + 1:]
                box, here = (mark, closed), (trail, word)
                if word == "out":
                    box, here = (hand, closed), (trail, "ask")
                elif word == "ask":
                    here = (trail + ("right",), "out") if closed else (trail, "close")
                elif word == "close":
                    box, here = (mark, True), (trail, "look")
                elif word == "look":
                    here = (trail, "holds") if mark is not None and mark == hand else (trail + ("down",), "out")
                behind_it = net(size, others[:hand] + [here] + others[hand + 1:], {number: box})
                refused = word == "holds" or len(here[0]) == size
                stand = net(size, hands, {number: (mark, closed)})
                self.steps(size, stand, hand, None if refused else behind_it)

    def test_each_trail_each_word_each_box(self):
        for size, many in SIZES:
            for trail in trails(size):
                for word in HERE:
                    for hand in {0, many - 1}:
                        self.one_step(size, many, hand, trail, word)

    def test_leaving_the_net_on_either_side(self):
        for size in range(1, 6):
            for way in WAYS:
                trail = (way,) * (size - 1)
                number = cells(size).index(walk(trail)[-1])
                others = [((), "out")] * (size - 1)
                for closed in (False, True):
                    asks = net(size, [(trail, "ask"), *others], {number: (0, closed)})
                    on = net(size, [(trail, "close"), *others], {number: (0, closed)})
                    self.steps(size, asks, 0, None if closed else on)
                    for mark in {None, size - 1}:
                        looks = net(size, [*others, (trail, "look")], {number: (mark, closed)})
                        on = net(size, [*others, (trail, "holds")], {number: (mark, closed)})
                        self.steps(size, looks, size - 1, on if mark == size - 1 else None)

    def test_one_cell_ahead_of_the_edge_is_no_refusal(self):
        for size in range(2, 6):
            for way in WAYS:
                trail = (way,) * (size - 2)
                number = cells(size).index(walk(trail)[-1])
                asks = net(size, [(trail, "ask")], {number: (0, True)})
                self.steps(size, asks, 0, net(size, [(trail + ("right",), "out")], {number: (0, True)}))
                looks = net(size, [(trail, "look")], {number: (None, True)})
                self.steps(size, looks, 0, net(size, [(trail + ("down",), "out")], {number: (None, True)}))

    def test_the_size_tells_where_the_net_ends(self):
        for size in range(1, 6):
            stand = net(size, [((), "ask")], {0: (0, True)})
            self.steps(size, stand, 0, None if size == 1 else net(size, [(("right",), "out")], {0: (0, True)}))

    def test_drawn_stands(self):
        chance = random.Random(21)
        refused = 0
        for size, many in SIZES:
            for turn in range(150):
                stand = drawn_stand(chance, size, many)
                for hand in range(many):
                    expected = behind(size, stand, hand)
                    refused += expected is None
                    self.steps(size, stand, hand, expected)
        self.assertGreater(refused, 500)

    def test_weavings_from_the_first_stand(self):
        chance = random.Random(20)
        for size, many in SIZES:
            for turn in range(20):
                stand = first_net(size, many)
                for step in range(20 * many):
                    hand = chance.randrange(many)
                    expected = behind(size, stand, hand)
                    self.steps(size, stand, hand, expected)
                    stand = stand if expected is None else expected

    def test_one_behind_the_other(self):
        for size in range(1, 6):
            stand = first_net(size, size)
            for hand in range(size):
                # Past each cell that is held: its mark, its shutter; four steps at the one that it holds.
                for step in range(2 * hand + 4):
                    stand = step_net(size, stand, hand)
            expected = tuple((("right",) * hand, "holds") for hand in range(size))
            assert_same(self, stand[1], expected)


if __name__ == "__main__":
    unittest.main()
