"""handnames.types: what is left of views by the order of great names, and names by a way."""

import itertools
import random
import unittest

from handnames.errors import HandError, NoType
from handnames.looks import view_of
from handnames.types import clash, names_by, one_round_types, type_of
from look_model import all_rounds, drawn_greats, drawn_rounds, one_round, rounds_among, types, views
from look_model import type_of as told_type
from plain_things import assert_refused, assert_same, assert_told


def drawn_case(chance, many, most_rounds):
    """GREATS and ROUNDS of so many hands."""
    return drawn_greats(chance, many), drawn_rounds(chance, many, chance.randrange(1, most_rounds + 1))


class TypeOf(unittest.TestCase):
    def test_ahead_of_all_rounds(self):
        for hand in range(6):
            assert_told(self, (0, ()), type_of, (5, 10 ** 9, 0, 7, 33, 1000), (hand, ()))

    def test_written_out(self):
        nought, one, two = (0, ()), (1, ()), (2, ())
        for greats, rounds, hand, expected in [
            ((7,), (((0,),),), 0, (0, (nought,))),
            ((7, 3), (((0, 1),),), 0, (1, (nought, one))),
            ((7, 3), (((0, 1),),), 1, (0, (nought, one))),
            ((7, 3), (((0,), (1,)),), 0, (0, (nought,))),
            ((10 ** 9, 0, 9, 10), (((0,), (1, 2), (3,)),), 2, (1, (nought, one, two))),
            ((10 ** 9, 0, 9, 10), (((0,), (1, 2), (3,)),), 0, (0, (nought,))),
            # Places are those among all hands of the whole view, also within it.
            ((5, 4, 3), (((0,), (1, 2)), ((0,), (2,))), 2, (0, ((0, (nought, one, two)), (2, (two,))))),
            ((5, 4, 3), (((0,), (1, 2)), ((0,), (2,))), 0, (0, ((0, (nought,)),))),
            # A hand that stopped counts where it was seen.
            ((5, 4, 3), (((2,), (0, 1)), ((0,),)), 0, (2, ((2, (nought, one, two)),))),
            ((5, 4), (((0,), (1,)), ((1,), (0,))), 0, (1, ((0, (nought, one)), (1, (one,))))),
        ]:
            assert_told(self, expected, type_of, greats, view_of(rounds, hand))

    def test_great_names_go_by_number_not_by_figures(self):
        # By their figures as texts 10 would be ahead of 9, and 10 ** 9 ahead of both.
        greats = (10, 9, 10 ** 9, 0, 100)
        seen = tuple((place, ()) for place in range(5))
        for hand, place in enumerate((2, 1, 4, 0, 3)):
            assert_told(self, (place, seen), type_of, greats, view_of((((0, 1, 2, 3, 4),),), hand))

    def test_seen_in_the_order_of_places_not_of_hands(self):
        greats = (3, 2, 1)
        view = view_of((((0,), (1,), (2,)), ((0, 1, 2),)), 0)
        expected = (2, ((0, ((0, ()), (1, ()), (2, ()))), (1, ((1, ()), (2, ()))), (2, ((2, ()),))))
        assert_told(self, expected, type_of, greats, view)

    def test_all_of_few_hands_and_orders(self):
        for many, count in [(1, 4), (2, 3), (3, 1), (4, 1)]:
            for greats in itertools.permutations((0, 8, 77, 10 ** 9)[:many]):
                for rounds in all_rounds(many, count):
                    for view in views(rounds).values():
                        assert_told(self, told_type(greats, view), type_of, greats, view)

    def test_drawn_ones_behind_one_to_four_rounds(self):
        chance = random.Random(72)
        for many, count in itertools.product(range(1, 7), range(1, 5)):
            for turn in range(5):
                greats, rounds = drawn_greats(chance, many), drawn_rounds(chance, many, count)
                for view in views(rounds).values():
                    assert_told(self, told_type(greats, view), type_of, greats, view)

    def test_the_order_of_great_names_alone_counts(self):
        chance = random.Random(73)
        for turn in range(60):
            greats, rounds = drawn_case(chance, chance.randrange(1, 7), 3)
            order = sorted(greats)
            others = tuple(order.index(great) * 1000 + 7 for great in greats)
            for view in views(rounds).values():
                assert_same(self, type_of(greats, view), type_of(others, view))


class OneRoundTypes(unittest.TestCase):
    def test_written_out(self):
        nought, one, two = (0, ()), (1, ()), (2, ())
        assert_told(self, [(0, (nought,))], one_round_types, 1)
        assert_told(self, [(0, (nought,)), (0, (nought, one)), (1, (nought, one))], one_round_types, 2)
        assert_told(self, [
            (0, (nought,)), (0, (nought, one)), (1, (nought, one)),
            (0, (nought, one, two)), (1, (nought, one, two)), (2, (nought, one, two)),
        ], one_round_types, 3)

    def test_by_size_then_by_place(self):
        for many, count in [(1, 1), (2, 3), (3, 6), (4, 10)]:
            expected = [one_round(size, place) for size in range(1, many + 1) for place in range(size)]
            self.assertEqual(len(expected), count)
            assert_told(self, expected, one_round_types, many)

    def test_just_the_ones_that_come_in_rounds_of_one_round(self):
        for many in range(1, 5):
            come = set()
            for greats in itertools.permutations(range(many)):
                for one in rounds_among(range(many)):
                    come |= {type_of(greats, view) for view in views((one,)).values()}
            self.assertEqual(come, set(one_round_types(many)))

    def test_a_told_list_is_the_askers_own(self):
        for many in range(1, 5):
            told = one_round_types(many)
            before = repr(told)
            told.reverse()
            told.append("more")
            self.assertEqual(repr(one_round_types(many)), before)


def way_of(chance, listed, most):
    """A WAY that has all these TYPES, and NAMES up to this one."""
    return {type_here: chance.randrange(1, most + 1) for type_here in listed}


class Ways(unittest.TestCase):
    def test_names_written_out(self):
        solo, low, high = one_round(1, 0), one_round(2, 0), one_round(2, 1)
        way = {solo: 1, low: 20, high: 10 ** 39}
        for greats, rounds, expected in [
            ((4, 3), (((0, 1),),), {0: 10 ** 39, 1: 20}),
            ((3, 4), (((0, 1),),), {0: 20, 1: 10 ** 39}),
            ((3, 4), (((1,), (0,)),), {0: 20, 1: 1}),
            ((3, 4), (((1,),),), {1: 1}),
            ((3, 9, 4, 1), (((2,), (1,)),), {1: 10 ** 39, 2: 1}),
        ]:
            assert_told(self, expected, names_by, way, greats, rounds)
            assert_told(self, None, clash, way, greats, rounds)

    def test_names_of_forty_figures(self):
        forty = 10 ** 40 - 1
        way = {one_round(1, 0): forty, one_round(2, 0): forty - 1, one_round(2, 1): forty}
        assert_told(self, {0: forty - 1, 1: forty}, names_by, way, (1, 2), (((0, 1),),))
        assert_told(self, None, clash, way, (1, 2), (((0, 1),),))
        assert_told(self, {0: forty, 1: forty}, names_by, way, (1, 2), (((0,), (1,)),))
        assert_told(self, (0, 1), clash, way, (1, 2), (((0,), (1,)),))

    def test_just_the_hands_of_the_last_round(self):
        rounds = (((0, 1, 2),), ((2,), (0,)))
        greats = (8, 7, 6)
        told = types(greats, rounds)
        self.assertEqual(set(told), {0, 2})
        way = {told[0]: 5, told[2]: 6}
        assert_told(self, {0: 5, 2: 6}, names_by, way, greats, rounds)

    def first_clash(self, named):
        """The first two hands of one name, by all pairs."""
        pairs = [pair for pair in itertools.permutations(named, 2) if pair[0] < pair[1]]
        alike = sorted(pair for pair in pairs if named[pair[0]] == named[pair[1]])
        return alike[0] if alike else None

    def told(self, way, greats, rounds):
        """By what the model tells: names, clash, or the first hand whose TYPE lacks."""
        here = types(greats, rounds)
        for hand in sorted(here):
            if here[hand] not in way:
                refusal = NoType(here[hand])
                assert_refused(self, refusal, names_by, way, greats, rounds)
                assert_refused(self, refusal, clash, way, greats, rounds)
                return "lacks"
        named = {hand: way[here[hand]] for hand in sorted(here)}
        told = names_by(way, greats, rounds)
        self.assertIs(type(told), dict)
        self.assertEqual(told, named)
        assert_same(self, sorted(told.items()), sorted(named.items()))
        due = self.first_clash(named)
        assert_told(self, due, clash, way, greats, rounds)
        return due and "clash"

    def test_drawn_ones(self):
        chance = random.Random(74)
        seen = {}
        for turn in range(600):
            greats, rounds = drawn_case(chance, chance.randrange(1, 7), 3)
            listed = list(types(greats, rounds).values())
            if chance.random() < 0.3:
                listed = chance.sample(listed, chance.randrange(len(listed)))
            way = way_of(chance, listed, chance.choice((2, 6, 10 ** 40 - 1)))
            word = self.told(way, greats, rounds)
            seen[word] = seen.get(word, 0) + 1
        self.assertEqual(set(seen), {None, "clash", "lacks"})
        self.assertGreater(min(seen.values()), 60)

    def test_clash_one_the_least_then_other(self):
        greats = (0, 1, 2, 3)
        rounds = (((0, 1, 2, 3),),)
        for named, expected in [
            ((1, 2, 2, 1), (0, 3)), ((1, 2, 1, 2), (0, 2)), ((1, 1, 1, 1), (0, 1)), ((4, 2, 2, 2), (1, 2)),
            ((1, 2, 3, 3), (2, 3)), ((1, 2, 3, 4), None), ((9, 2, 9, 9), (0, 2)),
        ]:
            way = {one_round(4, place): name for place, name in enumerate(named)}
            assert_told(self, expected, clash, way, greats, rounds)

    def test_hands_that_are_not_in_the_last_round_never_clash(self):
        way = {one_round(1, 0): 1, one_round(2, 0): 1, one_round(2, 1): 1}
        assert_told(self, None, clash, way, (5, 6), (((1,),),))
        assert_told(self, (0, 1), clash, way, (5, 6), (((1,), (0,)),))

    def test_the_first_hand_whose_type_lacks(self):
        greats = (2, 0, 1)
        rounds = (((2,), (0, 1)),)
        due = {0: one_round(3, 2), 1: one_round(3, 0), 2: one_round(1, 0)}
        for lacking in [(0,), (1,), (2,), (0, 1), (1, 2), (0, 2), (0, 1, 2)]:
            way = {due[hand]: 1 for hand in due if hand not in lacking}
            assert_refused(self, NoType(due[min(lacking)]), names_by, way, greats, rounds)
            assert_refused(self, NoType(due[min(lacking)]), clash, way, greats, rounds)

    def test_no_type_ahead_of_a_clash(self):
        # Hands 0 and 1 would clash, but hand 2 has no name.
        way = {one_round(2, 0): 1, one_round(2, 1): 1}
        assert_refused(self, NoType(one_round(3, 2)), clash, way, (0, 1, 2), (((0, 1), (2,)),))

    def test_no_type_is_of_its_own_class(self):
        with self.assertRaises(HandError) as caught:
            names_by({}, (3,), (((0,),),))
        self.assertIs(type(caught.exception), NoType)
        assert_same(self, caught.exception.type_here, one_round(1, 0))

    def test_a_told_dict_is_the_askers_own(self):
        way = {one_round(1, 0): 1, one_round(2, 0): 2, one_round(2, 1): 3}
        told = names_by(way, (0, 1), (((0, 1),),))
        told[0] = 77
        del told[1]
        self.assertEqual(names_by(way, (0, 1), (((0, 1),),)), {0: 2, 1: 3})
        self.assertEqual(len(way), 3)

    def test_a_way_that_was_changed_is_asked_anew(self):
        way = {one_round(1, 0): 1}
        self.assertEqual(names_by(way, (9,), (((0,),),)), {0: 1})
        way[one_round(1, 0)] = 2
        self.assertEqual(names_by(way, (9,), (((0,),),)), {0: 2})


if __name__ == "__main__":
    unittest.main()
