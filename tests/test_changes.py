"""handnames.changes: great names changed, their order kept, turn nothing."""

import itertools
import random
import unittest

from handnames.changes import alike, changed
from handnames.errors import NoType
from handnames.levels import level_names
from handnames.looks import view_of
from handnames.machines import first, names, woven
from handnames.pairs import pair_clash, told_pairs, told_way
from handnames.types import clash, names_by, type_of
from level_model import drawn_let
from look_model import drawn_greats, drawn_rounds, hands_of, types
from plain_things import assert_refused, assert_same, assert_told


def drawn_numbers(chance, many):
    """A rising tuple of so many great names."""
    return tuple(sorted(drawn_greats(chance, many)))


class Changed(unittest.TestCase):
    def test_written_out(self):
        for greats, numbers, expected in [
            ((5,), (0,), (0,)), ((5,), (10 ** 9,), (10 ** 9,)), ((0,), (0,), (0,)),
            ((7, 3), (1, 2), (2, 1)), ((3, 7), (1, 2), (1, 2)), ((0, 10 ** 9), (4, 5), (4, 5)),
            ((10 ** 9, 0), (0, 10 ** 9), (10 ** 9, 0)), ((9, 10, 8), (0, 10, 100), (10, 100, 0)),
            ((100, 20, 3), (7, 8, 9), (9, 8, 7)),
            ((50, 10, 60, 30, 20, 40), (0, 1, 2, 3, 4, 10 ** 9), (4, 0, 10 ** 9, 2, 1, 3)),
        ]:
            assert_told(self, expected, changed, greats, numbers)

    def test_all_orders(self):
        numbers = (0, 9, 10, 99, 10 ** 8, 10 ** 9)
        for many in range(1, 7):
            for order in itertools.permutations(range(many)):
                greats = tuple(3 * place + 1 for place in order)
                assert_told(self, tuple(numbers[place] for place in order), changed, greats, numbers[:many])

    def test_drawn_ones(self):
        chance = random.Random(100)
        for turn in range(300):
            many = chance.randrange(1, 7)
            greats, numbers = drawn_greats(chance, many), drawn_numbers(chance, many)
            expected = tuple(numbers[sum(other < great for other in greats)] for great in greats)
            assert_told(self, expected, changed, greats, numbers)

    def test_there_and_back(self):
        chance = random.Random(101)
        for turn in range(100):
            greats = drawn_greats(chance, chance.randrange(1, 7))
            new = changed(greats, drawn_numbers(chance, len(greats)))
            assert_told(self, greats, changed, new, tuple(sorted(greats)))


class Alike(unittest.TestCase):
    def test_written_out(self):
        for greats, others, expected in [
            ((5,), (9,), True), ((5, 9), (0, 10 ** 9), True), ((5, 9), (9, 5), False), ((9, 5), (9, 5), True),
            ((1, 2, 3), (1, 3, 2), False), ((9, 10, 8), (99, 100, 9), True), ((9, 10, 8), (8, 9, 10), False),
        ]:
            assert_told(self, expected, alike, greats, others)
            assert_told(self, expected, alike, others, greats)

    def test_all_orders(self):
        for many in range(1, 5):
            for one, other in itertools.product(itertools.permutations(range(many)), repeat=2):
                others = tuple(place * 1001 for place in other)
                assert_told(self, one == other, alike, one, others)

    def test_drawn_ones_by_each_two_hands(self):
        chance = random.Random(102)
        for turn in range(300):
            many = chance.randrange(1, 5)
            greats, others = drawn_greats(chance, many), drawn_greats(chance, many)
            pairs = itertools.combinations(range(many), 2)
            expected = all((greats[one] < greats[other]) == (others[one] < others[other]) for one, other in pairs)
            assert_told(self, expected, alike, greats, others)

    def test_great_names_and_what_they_are_changed_to(self):
        chance = random.Random(103)
        for turn in range(200):
            greats = drawn_greats(chance, chance.randrange(1, 7))
            new = changed(greats, drawn_numbers(chance, len(greats)))
            assert_told(self, True, alike, greats, new)
            assert_told(self, True, alike, new, greats)

    def test_two_exchanged(self):
        chance = random.Random(104)
        for many in range(2, 7):
            for one, other in itertools.combinations(range(many), 2):
                greats = drawn_greats(chance, many)
                swapped = list(greats)
                swapped[one], swapped[other] = greats[other], greats[one]
                assert_told(self, False, alike, greats, tuple(swapped))


class Stays(unittest.TestCase):
    """What is told by changed great names is what is told by the old ones."""

    def each(self, seed, most_rounds):
        chance = random.Random(seed)
        for turn in range(150):
            many = chance.randrange(1, 7)
            greats = drawn_greats(chance, many)
            rounds = drawn_rounds(chance, many, chance.randrange(1, most_rounds + 1))
            yield chance, greats, changed(greats, drawn_numbers(chance, many)), rounds

    def test_types(self):
        for chance, greats, new, rounds in self.each(105, 4):
            for hand in hands_of(rounds[-1]):
                view = view_of(rounds, hand)
                assert_same(self, type_of(new, view), type_of(greats, view))

    def test_names_by_a_way_and_clashes(self):
        seen = {}
        for chance, greats, new, rounds in self.each(106, 3):
            told = list(types(greats, rounds).values())
            way = {type_here: chance.randrange(1, 5) for type_here in told}
            if chance.random() < 0.2:
                lacking = way.pop(told[0])
                self.assertIsNotNone(lacking)
            try:
                expected = names_by(way, greats, rounds), clash(way, greats, rounds)
            except NoType as refusal:
                assert_refused(self, NoType(refusal.type_here), names_by, way, new, rounds)
                assert_refused(self, NoType(refusal.type_here), clash, way, new, rounds)
                seen["lacks"] = True
            else:
                assert_same(self, (names_by(way, new, rounds), clash(way, new, rounds)), expected)
                seen[expected[1] is None] = True
        self.assertEqual(set(seen), {"lacks", True, False})

    def test_names_of_levels(self):
        chance = random.Random(107)
        for turn in range(200):
            many = chance.randrange(1, 7)
            greats = drawn_greats(chance, many)
            new = changed(greats, drawn_numbers(chance, many))
            stand = drawn_let(chance, many)
            assert_same(self, level_names(new, stand), level_names(greats, stand))
            weaving = tuple(chance.randrange(many) for step in range(chance.randrange(12 * many)))
            one, other = [names(machine, woven(machine, first(machine), weaving))
                          for machine in (("levels", greats), ("levels", new))]
            assert_same(self, one, other)

    def test_papers_of_pairs(self):
        chance = random.Random(108)
        for many in (2, 3, 4):
            for turn in range(10):
                paper = tuple((changed(greats, drawn_numbers(chance, len(greats))), *rest)
                              for greats, *rest in told_pairs(many))
                way = {type_here: chance.randrange(1, 7) for type_here in told_way(many)}
                assert_same(self, pair_clash(way, paper), pair_clash(way, told_pairs(many)))


if __name__ == "__main__":
    unittest.main()
