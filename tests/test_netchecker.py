"""handnames.netchecker: what is let by as a stand of a net, with names and counts."""

import itertools
import random
import unittest

from handnames.errors import NoStand
from handnames.netchecker import lets_net, net_left, net_names
from handnames.nets import first_net
from net_model import HERE, all_let, all_stands, drawn_let, drawn_stand, fault_of, found_stands, trails, walk
from plain_things import ODD, assert_refused, assert_told, swapped
from test_nets import SIZES, net

OUT = ((), "out")


class Nets(unittest.TestCase):
    def lets(self, size, many, thing):
        assert_told(self, True, lets_net, size, many, thing)

    def refuses(self, size, many, thing, word, at):
        assert_refused(self, NoStand(word, at), lets_net, size, many, thing)

    def told(self, size, many, stand, expected):
        if expected is None:
            self.lets(size, many, stand)
        else:
            self.refuses(size, many, stand, *expected)


class LetBy(Nets):
    def test_first_stands(self):
        for size, many in SIZES:
            self.lets(size, many, first_net(size, many))

    def test_written_out(self):
        self.lets(1, 1, (((0, False),), (((), "close"),)))
        self.lets(1, 1, (((0, True),), (((), "holds"),)))
        self.lets(2, 2, net(2, [((), "holds"), ((), "ask")], {0: (1, True)}))
        self.lets(2, 2, net(2, [((), "holds"), (("right",), "out")], {0: (1, True)}))
        self.lets(2, 2, net(2, [((), "look"), (("down",), "ask")], {0: (0, True), 2: (1, False)}))
        self.lets(3, 3, net(3, [((), "holds"), (("right",), "look"), (("right", "right"), "holds")],
                            {0: (2, True), 1: (2, True), 3: (2, True)}))

    def test_all_stands_of_small_nets(self):
        for size, many, count in ((1, 1, 20), (2, 1, 960), (2, 2, 48600)):
            stands = list(all_stands(size, many))
            self.assertEqual(len(stands), count)
            for stand in stands:
                self.told(size, many, stand, fault_of(size, stand))

    def test_those_that_weavings_come_to_are_let_by(self):
        for size, many in ((1, 1), (2, 1), (2, 2), (3, 2), (3, 3)):
            for stand in found_stands(size, many):
                self.lets(size, many, stand)

    def test_drawn_ones_to_which_no_weaving_was_made(self):
        chance = random.Random(23)
        for size, many in SIZES:
            for turn in range(60):
                self.lets(size, many, drawn_let(chance, size, many))


class Faults(Nets):
    """The words at cell 0, and at a later one behind a first cell without a fault."""

    def local(self, mark, closed, words):
        """A net with this local stand of hands 0 to 2 at cell 0, at cell 1 and at cell 2: hand 3 holds cell 0 then."""
        moved = {"right": ("right",), "down": ("down",)}
        for ahead, number in (((), 0), (("right",), 1), (("down",), 2)):
            hands = []
            for word in words:
                trail = ahead + moved.get(word, ())
                hands.append((trail, "out" if word in moved else word))
            boxes = {0: (3, True), number: (mark, closed)}
            hands.append(OUT if ahead == () else ((), "holds"))
            yield net(4, hands, boxes), number

    def due(self, word, mark, closed, words):
        for stand, number in self.local(mark, closed, words):
            self.assertEqual(fault_of(4, stand), (word, number))
            self.refuses(4, 4, stand, word, number)

    def let(self, mark, closed, words):
        for stand, number in self.local(mark, closed, words):
            self.told(4, 4, stand, fault_of(4, stand))
            fault = fault_of(4, stand)
            self.assertTrue(fault is None or fault[1] > number, (stand, fault))

    def test_open(self):
        for word in ("look", "holds", "right", "down"):
            self.due("open", 0, False, ("ask", "out", word))
            self.due("open", 2, False, ("ask", "out", word))
            self.due("open", None, False, ("out", word, "out"))
        for word in ("out", "ask", "close"):
            self.let(0, False, ("ask", "out", word))

    def test_closed(self):
        for word in ("out", "ask", "close", "right"):
            self.due("closed", 0, True, ("ask", "out", word))
            self.due("closed", None, True, ("out", word, "out"))
        for word in ("look", "holds", "down"):
            self.let(0, True, ("ask", "out", word))

    def test_free(self):
        for word in ("ask", "close"):
            self.due("free", None, False, ("out", word, "out"))
        for word in ("look", "holds", "down"):
            self.due("free", None, True, (word, "out", "out"))
            self.due("free", None, True, ("right", "ask", word))

    def test_mark(self):
        self.due("mark", 0, False, ("out", "ask", "out"))
        self.due("mark", 2, False, ("ask", "close", "out"))
        self.due("mark", 1, False, ("out", "out", "out"))
        self.due("mark", 0, True, ("down", "look", "out"))
        self.due("mark", 1, True, ("down", "out", "ask"))
        for word in ("ask", "close", "look", "holds", "right"):
            self.let(0, True, (word, "down", "out"))

    def test_late(self):
        for word in ("close", "look"):
            self.due("late", 0, True, (word, "holds", "out"))
            self.due("late", 2, True, ("holds", "down", word))
        for word in ("ask", "right"):
            self.let(0, True, (word, "holds", "out"))
        self.let(1, True, ("close", "holds", "look"))
        self.let(0, True, ("holds", "out", "close"))

    def test_twice(self):
        self.due("twice", 0, True, ("holds", "holds", "out"))
        self.due("twice", 2, True, ("holds", "holds", "ask"))
        self.due("twice", 1, True, ("holds", "right", "holds"))
        self.due("twice", 2, True, ("holds", "out", "holds"))
        self.due("twice", 1, True, ("holds", "holds", "holds"))

    def test_two_at_one_cell_in_the_told_order(self):
        self.due("open", None, False, ("holds", "holds", "ask"))
        self.due("open", 0, False, ("out", "look", "right"))
        self.due("open", 2, False, ("holds", "holds", "close"))
        self.due("closed", None, True, ("ask", "out", "right"))
        self.due("closed", 1, True, ("close", "out", "right"))
        self.due("free", None, True, ("holds", "holds", "out"))
        self.due("mark", 0, True, ("out", "holds", "holds"))
        self.due("mark", 0, True, ("down", "holds", "holds"))
        self.due("late", 0, True, ("look", "holds", "holds"))

    def test_two_at_two_cells_the_lower_first(self):
        held = [((), "holds"), ((), "holds"), (("right",), "look")]
        self.refuses(3, 3, net(3, held, {0: (0, True), 1: (None, False)}), "twice", 0)
        marked = [((), "holds"), (("right",), "holds"), (("right",), "holds")]
        twice_and_open = net(3, marked, {0: (0, True), 1: (1, True), 2: (0, False)})
        self.refuses(3, 3, twice_and_open, "twice", 1)
        open_ahead = net(3, marked, {0: (0, False), 1: (1, True), 2: (0, False)})
        self.refuses(3, 3, open_ahead, "open", 0)
        for low, high in itertools.combinations(range(15), 2):
            stand = net(5, [OUT] * 5, {low: (4, False), high: (None, True)})
            self.refuses(5, 5, stand, "mark", low)
            stand = net(5, [OUT] * 5, {low: (None, True), high: (4, False)})
            self.refuses(5, 5, stand, "closed", low)

    def test_each_cell(self):
        for size, many in SIZES:
            for number in range(size * (size + 1) // 2):
                self.refuses(size, many, net(size, [OUT] * many, {number: (many - 1, False)}), "mark", number)
                self.refuses(size, many, net(size, [OUT] * many, {number: (None, True)}), "closed", number)
                self.refuses(size, many, net(size, [OUT] * many, {number: (0, True)}), "closed", number)

    def test_drawn_stands(self):
        chance = random.Random(24)
        seen = {}
        for size, many in SIZES:
            for turn in range(150):
                stand = drawn_stand(chance, size, many) if turn % 3 == 0 else self.spoiled(chance, size, many)
                expected = fault_of(size, stand)
                self.told(size, many, stand, expected)
                if expected is not None:
                    seen[expected[0]] = seen.get(expected[0], 0) + 1
        self.assertEqual(sorted(seen), sorted(["open", "closed", "free", "mark", "late", "twice"]))

    def spoiled(self, chance, size, many):
        """A stand without a fault, with one part of it drawn anew."""
        boxes, hands = map(list, drawn_let(chance, size, many))
        anew = drawn_stand(chance, size, many)
        if chance.random() < 0.5:
            at = chance.randrange(len(boxes))
            boxes[at] = anew[0][at]
        else:
            at = chance.randrange(many)
            hands[at] = anew[1][at]
        return (tuple(boxes), tuple(hands))


class Shapes(Nets):
    def test_odd_things(self):
        for size, many in SIZES:
            for odd in ODD + [0, 1, (), ((), ()), [(), ()], "stand"]:
                self.refuses(size, many, odd, "shape", 0)

    def test_any_part_swapped(self):
        known = {repr(stand) for stand in all_stands(2, 2)}
        stands = [
            first_net(2, 2),
            net(2, [((), "holds"), (("right",), "look")], {0: (1, True), 1: (1, True)}),
            net(2, [(("down",), "ask"), ((), "look")], {0: (1, True), 2: (0, False)}),
        ]
        seen = 0
        for stand in stands:
            for odd in ODD + [0, 1, 2, (), "right", "down", "out", "look", ("right",), ("right", "down"), (0, True)]:
                for thing in swapped(stand, odd):
                    seen += 1
                    if repr(thing) in known:
                        self.told(2, 2, thing, fault_of(2, thing))
                    else:
                        self.refuses(2, 2, thing, "shape", 0)
        self.assertGreater(seen, 2000)

    def test_lists_in_place_of_tuples(self):
        stand = net(3, [(("right",), "ask"), ((), "look")], {0: (1, True), 1: (0, False)})
        self.lets(3, 2, stand)
        boxes, hands = stand
        for thing in [
            list(stand), (list(boxes), hands), (boxes, list(hands)),
            (boxes[:5] + ([None, False],), hands), (([1, True],) + boxes[1:], hands),
            (boxes, (hands[0], ([], "look"))), (boxes, ((["right"], "ask"), hands[1])),
            (boxes, (hands[0], [(), "look"])), (boxes, ([("right",), "ask"], hands[1])),
        ]:
            self.refuses(3, 2, thing, "shape", 0)

    def test_trails_that_leave_the_net(self):
        for size, many in SIZES:
            for way in ("right", "down"):
                for length in range(size, size + 3):
                    stand = net(size, [OUT] * (many - 1) + [((way,) * length, "out")], {})
                    self.refuses(size, many, stand, "shape", 0)

    def test_trails_of_other_things(self):
        for odd in ODD + ["out", "left", "Right", "right ", 0, 1, ("right",), ("down",)]:
            self.refuses(3, 1, net(3, [((odd,), "out")], {}), "shape", 0)
            self.refuses(3, 1, net(3, [(("right", odd), "out")], {}), "shape", 0)
        for odd in ("", "right", "down", None, 0, True, ["right"], []):
            self.refuses(3, 1, net(3, [(odd, "out")], {}), "shape", 0)

    def test_right_and_down_are_no_words_here(self):
        for size, many in SIZES:
            for word in ("right", "down"):
                for hand in range(many):
                    hands = [OUT] * many
                    hands[hand] = ((), word)
                    self.refuses(size, many, net(size, hands, {0: (hand, True)}), "shape", 0)

    def test_words_of_other_things(self):
        for odd in ODD + ["rests", "put", "ask ", "holds\t", 0, 1, (), ("out",), "ou"]:
            self.refuses(2, 2, net(2, [OUT, ((), odd)], {}), "shape", 0)

    def test_marks_and_shutters(self):
        for size, many in SIZES:
            for number in range(size * (size + 1) // 2):
                for mark in (many, many + 1, -1, True, False, "0", (0,), [0], [], 10 ** 39):
                    self.refuses(size, many, net(size, [OUT] * many, {number: (mark, False)}), "shape", 0)
                for closed in (0, 1, None, "", "True", (), [True], 2):
                    self.refuses(size, many, net(size, [OUT] * many, {number: (None, closed)}), "shape", 0)

    def test_parts_more_or_fewer(self):
        for size, many in SIZES:
            boxes, hands = first_net(size, many)
            for thing in [
                (), (boxes,), (hands, boxes), (boxes, hands, ()), (boxes, hands, None), (boxes[1:], hands),
                (boxes + ((None, False),), hands), (boxes, hands[1:]), (boxes, hands + (OUT,)), (boxes, ()),
                ((), hands), (((None,),) + boxes[1:], hands), (((None, False, None),) + boxes[1:], hands),
                (((),) + boxes[1:], hands), (boxes, (((),),) + hands[1:]), (boxes, (((), "out", "out"),) + hands[1:]),
                (boxes, ((),) + hands[1:]), ((boxes, hands),),
            ]:
                self.refuses(size, many, thing, "shape", 0)

    def test_of_another_size_or_number_of_hands(self):
        for size, many in SIZES:
            for other_size, other_many in SIZES:
                thing = first_net(other_size, other_many)
                if (size, many) == (other_size, other_many):
                    self.lets(size, many, thing)
                else:
                    self.refuses(size, many, thing, "shape", 0)

    def test_ahead_of_all_other_faults(self):
        hands = [((), "holds"), ((), "holds"), ((), "right")]
        self.refuses(3, 3, net(3, hands, {0: (None, False)}), "shape", 0)
        hands = [((), "holds"), ((), "holds"), ((), "look")]
        self.refuses(3, 3, net(3, hands, {0: (None, False), 5: (True, False)}), "shape", 0)
        self.refuses(3, 3, net(3, hands, {0: (None, False), 5: (0, 1)}), "shape", 0)


class NamesAndCounts(unittest.TestCase):
    def test_names_written_out(self):
        hands = [((), "holds"), (("right",), "holds"), (("down",), "look"), (("down", "right"), "holds"),
                 (("right", "right", "right", "right"), "holds")]
        assert_told(self, (1, 2, None, 5, 11), net_names, 5, net(5, hands, {}))
        assert_told(self, (None,) * 5, net_names, 5, first_net(5, 5))
        assert_told(self, (15,), net_names, 5, net(5, [(("down",) * 4, "holds")], {}))

    def test_names_of_each_trail(self):
        for size in range(1, 6):
            for trail in trails(size):
                r, c = walk(trail)[-1]
                number = sum(range(r + c + 1)) + r
                for word in HERE:
                    name = number + 1 if word == "holds" else None
                    assert_told(self, (name,), net_names, size, net(size, [(trail, word)], {}))
                    if size > 1:
                        assert_told(self, (None, name), net_names, size, net(size, [OUT, (trail, word)], {}))

    def test_left_written_out(self):
        for many in range(1, 6):
            for word, left in (("out", 4 * many), ("ask", 4 * many - 1), ("close", 4 * many - 2),
                               ("look", 4 * many - 3), ("holds", 0)):
                for size in range(many, 6):
                    stand = net(size, [OUT] * (many - 1) + [((), word)], {})
                    assert_told(self, left, net_left, size, stand, many - 1)
        stand = net(4, [(("right", "down"), "look"), (("down",), "ask"), ((), "out"), (("right",) * 3, "holds")], {})
        for hand, left in enumerate((5, 11, 16, 0)):
            assert_told(self, left, net_left, 4, stand, hand)

    def test_left_by_the_number_of_hands_not_by_the_size(self):
        assert_told(self, 8, net_left, 5, net(5, [OUT, OUT], {}), 0)
        assert_told(self, 3, net_left, 5, net(5, [(("right",), "ask"), OUT], {}), 0)

    def test_left_of_each_trail_and_word(self):
        for size, many in SIZES:
            for trail in trails(min(size, many)):
                for made, word in enumerate(("out", "ask", "close", "look")):
                    stand = net(size, [(trail, word)] + [OUT] * (many - 1), {})
                    left = sum([4] * (many - len(trail))) - made
                    assert_told(self, left, net_left, size, stand, 0)


class Small(Nets):
    def test_let_by_are_just_those_that_weavings_come_to(self):
        for size, many, count in ((1, 1, 5), (2, 1, 5), (2, 2, 165), (3, 3, 15007)):
            found = found_stands(size, many)
            let = list(all_let(size, many))
            self.assertEqual((len(found), len(let)), (count, count))
            for stand in let:
                self.assertIs(lets_net(size, many, stand), True)
                self.assertIn(stand, found)


if __name__ == "__main__":
    unittest.main()
