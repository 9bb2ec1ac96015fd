"""handnames.rings: rings of entries of two hands, where ways of two names clash in them, and what is told."""

import itertools
import random
import unittest

from handnames.errors import NoPaper
from handnames.rings import lets_ring, ring_clash, told_ring
from handnames.types import clash, names_by
from look_model import one_round
from plain_things import ODD, assert_refused, assert_told, swapped
from ring_model import (
    WAYS, all_entries, circle, drawn_ring, ends_of, fault_of, first_clash, ring_along, widened)

FIRST, BOTH, SECOND = WAYS
# By hand, for one round: alone, then high; high, then low; low, then alone.
ONE = (((5, 9), (FIRST,)), ((5, 9), (BOTH,)), ((5, 9), (SECOND,)))
CIRCLES = {many: circle(many) for many in range(1, 5)}
BACKS = {1: (3, 5, 9, 33, 79, 81), 2: (9, 11, 45, 81), 3: (27, 29, 53, 81), 4: (81,)}


def exchanged(entry):
    """The entry with hand 0 called 1, hand 1 called 0."""
    greats, rounds = entry
    return (greats[::-1], tuple({FIRST: SECOND, BOTH: BOTH, SECOND: FIRST}[one] for one in rounds))


class Rings(unittest.TestCase):
    def lets(self, many, thing):
        assert_told(self, True, lets_ring, many, thing)

    def refuses(self, many, thing, word, at):
        assert_refused(self, NoPaper(word, at), lets_ring, many, thing)

    def told(self, many, paper):
        fault = fault_of(paper)
        if fault is None:
            self.lets(many, paper)
        else:
            self.refuses(many, paper, *fault)
        return fault


class LetBy(Rings):
    def test_written_out(self):
        self.lets(1, ONE)
        # Gone the other way about: hand 0 of the first entry is to be the one that is left.
        self.lets(1, tuple(exchanged(entry) for entry in ONE[::-1]))
        # In all entries but the first it does not matter which hand is which.
        self.lets(1, (ONE[0], exchanged(ONE[1]), exchanged(ONE[2])))
        self.lets(1, (exchanged(ONE[1]), ONE[2], ONE[0]))
        # There and back again.
        self.lets(1, (ONE[0], ONE[0], ONE[0], ONE[1], ONE[2]))
        self.lets(1, ONE * 27)

    def test_told_ones(self):
        for many in range(1, 5):
            self.assertIsNone(fault_of(told_ring(many)))
            self.lets(many, told_ring(many))

    def test_told_for_just_so_many_rounds(self):
        for many, other in itertools.permutations(range(1, 5), 2):
            self.refuses(other, told_ring(many), "entry", 0)

    def test_the_circle(self):
        for many, (order, edges) in CIRCLES.items():
            self.assertEqual(len(order), 3 ** many)
            self.assertEqual(sum(len(entries) for entries in edges), 2 * 3 ** many)

    def test_begun_anywhere_gone_either_way_about(self):
        chance = random.Random(90)
        for many, (order, edges) in CIRCLES.items():
            for start in range(len(order)):
                for step in (1, -1):
                    ring = ring_along(chance, order, edges, start, [step] * len(order))
                    self.lets(many, ring)

    def test_there_and_back_again_up_to_eighty_one(self):
        chance = random.Random(91)
        for many, counts in BACKS.items():
            for count in counts:
                for turn in range(4):
                    ring = drawn_ring(chance, *CIRCLES[many], count)
                    self.assertEqual(len(ring), count)
                    self.lets(many, ring)

    def test_hands_exchanged(self):
        chance = random.Random(92)
        for many in range(1, 5):
            for turn in range(5):
                ring = told_ring(many)
                self.lets(many, ring[:1] + tuple(chance.choice([entry, exchanged(entry)]) for entry in ring[1:]))
                # Of the first entry the other hand is left then.
                self.told(many, (exchanged(ring[0]),) + ring[1:])
            self.lets(many, tuple(exchanged(entry) for entry in told_ring(many)[::-1]))

    def test_great_names_of_each_entry_its_own(self):
        chance = random.Random(93)
        bounds = [((0, 10 ** 9), (FIRST,)), ((1, 2), (BOTH,)), ((10 ** 9 - 1, 10 ** 9), (SECOND,))]
        self.lets(1, tuple(bounds))
        for many in range(1, 5):
            entries = [((3, 8) if greats[0] < greats[1] else (8, 3), rounds) for greats, rounds in told_ring(many)]
            self.lets(many, tuple(widened(chance, entry) for entry in entries))


class Faults(Rings):
    def test_shape(self):
        for many in range(1, 5):
            ring = told_ring(many)
            self.refuses(many, (), "shape", 0)
            self.refuses(many, list(ring), "shape", 0)
            for count in (2, 4, 80, 82, 84):
                self.refuses(many, (ring * 30)[:count], "shape", 0)
            for count in (83, 85, 99):
                self.refuses(many, (ring * 50)[:count], "shape", 0)
            for odd in ODD + [0, 1, "ring", {}]:
                if not isinstance(odd, tuple) or len(odd) % 2 == 0 or len(odd) > 81:
                    self.refuses(many, odd, "shape", 0)
                else:
                    self.refuses(many, odd, "entry", 0)

    def test_eighty_one_and_eighty_three_that_would_close(self):
        chance = random.Random(94)
        for many in (1, 2, 3):
            self.lets(many, drawn_ring(chance, *CIRCLES[many], 81))
            long = drawn_ring(chance, *CIRCLES[many], 83)
            self.assertIsNone(fault_of(long))
            self.refuses(many, long, "shape", 0)

    def test_one_entry_never_closes(self):
        for many in range(1, 5):
            for entry in all_entries(many)[::7]:
                self.refuses(many, (entry,), "ring", 0)

    def test_links_written_out(self):
        self.refuses(1, (ONE[0], ONE[2], ONE[1]), "link", 1)
        self.lets(1, (ONE[1], ONE[0], ONE[2]))
        self.refuses(1, (ONE[1], ONE[2], ONE[0]), "link", 1)
        self.refuses(1, (ONE[1], ONE[1], ONE[0]), "link", 2)
        self.refuses(1, (ONE[1], ONE[1], ONE[2]), "ring", 0)
        self.refuses(1, (ONE[0], ONE[0], ONE[0]), "ring", 0)
        self.refuses(1, (ONE[0], ONE[1], ONE[1]), "ring", 0)
        self.refuses(1, (ONE[0], ONE[2], ONE[2], ONE[2], ONE[2]), "link", 1)

    def test_all_papers_of_three_entries_of_one_round(self):
        seen = {}
        for paper in itertools.product(all_entries(1), repeat=3):
            fault = self.told(1, paper)
            seen[fault] = seen.get(fault, 0) + 1
        self.assertEqual(set(seen), {None, ("link", 1), ("link", 2), ("ring", 0)})

    def test_one_entry_exchanged_for_another_one(self):
        chance = random.Random(95)
        seen = {}
        for many in range(1, 5):
            entries = all_entries(many)
            for turn in range(25):
                ring = list(drawn_ring(chance, *CIRCLES[many], chance.choice(BACKS[many])))
                ring[chance.randrange(len(ring))] = widened(chance, chance.choice(entries))
                fault = self.told(many, tuple(ring))
                seen[fault and fault[0]] = seen.get(fault and fault[0], 0) + 1
        self.assertGreater(seen["link"], 10)

    def test_a_link_that_breaks_anywhere(self):
        for many in (2, 3, 4):
            ring = told_ring(many)
            for at in range(1, len(ring)):
                # The entry opposite on the circle has neither of the two types.
                broken = ring[:at] + (ring[(at + len(ring) // 2) % len(ring)],) + ring[at + 1:]
                self.refuses(many, broken, "link", at)

    def test_walks_that_do_not_come_back(self):
        chance = random.Random(96)
        for many in range(1, 5):
            order, edges = CIRCLES[many]
            for count in (1, 3, 5, 7):
                if count % len(order):
                    for step in (1, -1):
                        start = chance.randrange(len(order))
                        self.refuses(many, ring_along(chance, order, edges, start, [step] * count), "ring", 0)

    def test_an_entry_that_is_none_behind_a_link_that_breaks(self):
        broken = (ONE[0], ONE[2], ONE[1])
        for at in range(3):
            self.refuses(1, broken[:at] + (None,) + broken[at + 1:], "entry", at)
        self.refuses(1, (ONE[0], ONE[2], ONE[1], ONE[1], ((5, 5), (BOTH,))), "entry", 4)
        self.refuses(1, (None,) * 3, "entry", 0)
        self.refuses(1, (None,) * 2, "shape", 0)
        self.refuses(1, (None,) * 83, "shape", 0)
        self.refuses(1, (None,) * 81, "entry", 0)
        for many in range(1, 5):
            ring = told_ring(many)
            self.refuses(many, ring[:-1] + (None,), "entry", len(ring) - 1)
            self.refuses(many, ring[::-1][:-1] + (None,), "entry", len(ring) - 1)

    def test_entries_that_are_none(self):
        for entry in [
            # Great names.
            ((5,), (BOTH,)), ((5, 9, 11), (BOTH,)), ((), (BOTH,)), ((5, 5), (BOTH,)), ((5, -1), (BOTH,)),
            ((-1, 5), (BOTH,)), ((5, 10 ** 9 + 1), (BOTH,)), ((5, True), (BOTH,)), ((False, True), (BOTH,)),
            ([5, 9], (BOTH,)), ((5, None), (BOTH,)), ((5, "9"), (BOTH,)), (None, (BOTH,)), (5, (BOTH,)),
            # Rounds: a hand missing, one more or fewer.
            ((5, 9), (((0,),),)), ((5, 9), (((1,),),)), ((5, 9), (BOTH, BOTH)), ((5, 9), ()), ((5, 9), BOTH),
            ((5, 9), ((),)), ((5, 9), (((0, 1), ()),)), ((5, 9), (((1, 0),),)), ((5, 9), (((0, 1), (1,)),)),
            ((5, 9), (((0,), (2,)),)), ((5, 9), (((0, 1, 2),),)), ((5, 9), (((0, 2),),)), ((5, 9), (((-1, 0),),)),
            ((5, 9), (((0, True),),)), ((5, 9), (((False, True),),)), ((5, 9), (((False,), (1,)),)),
            ((5, 9), [BOTH]), ((5, 9), ([(0, 1)],)), ((5, 9), (([0, 1],),)), ((5, 9), None),
            # Parts.
            ((5, 9),), ((5, 9), (BOTH,), 0), (), [(5, 9), (BOTH,)], ((BOTH,), (5, 9)), (((5, 9), (BOTH,)),),
            ((5, 9), (BOTH,), 0, 1),
        ]:
            for at in range(3):
                self.refuses(1, ONE[:at] + (entry,) + ONE[at + 1:], "entry", at)

    def test_a_hand_missing_in_some_round(self):
        for many in range(2, 5):
            ring = told_ring(many)
            for later in range(1, many + 1):
                for stopped in (((0,),), ((1,),)):
                    rounds = (BOTH,) * (many - later) + (stopped,) * later
                    self.refuses(many, ring[:1] + (((5, 9), rounds),) + ring[2:], "entry", 1)
                    # Nobody comes back.
                    rounds = (BOTH,) * (many - later) + (stopped,) + (BOTH,) * (later - 1)
                    self.refuses(many, ring[:1] + (((5, 9), rounds),) + ring[2:], "entry", 1)

    def test_a_round_more_or_fewer(self):
        for many in range(1, 5):
            ring = told_ring(many)
            for count in range(7):
                entry = ((5, 9), (BOTH,) * count)
                if count != many:
                    self.refuses(many, (entry,) + ring[1:], "entry", 0)
                    self.refuses(many, ring[:2] + (entry,) + ring[3:], "entry", 2)

    def test_any_part_swapped(self):
        fitting = {repr((greats, (one,))) for greats in itertools.permutations((0, 1, 2, 5, 6, 7, 9), 2) for one in WAYS}
        seen = [0, 0]
        for entry in ONE:
            for odd in ODD + [0, 1, 2, (), (1,), (0, 1), (1, 0), BOTH, FIRST, (BOTH,), (SECOND,)]:
                for thing in swapped(entry, odd):
                    fits = repr(thing) in fitting
                    seen[fits] += 1
                    if fits:
                        self.told(1, (ONE[0], thing, ONE[2]))
                    else:
                        self.refuses(1, (ONE[0], thing, ONE[2]), "entry", 1)
        self.assertGreater(min(seen), 20)

    def test_the_two_hands_of_an_entry_are_never_of_one_type(self):
        # So the first hand that has a type is the only one: whichever it is, the other one is gone to.
        for many in range(1, 5):
            for entry in all_entries(many):
                self.assertEqual(len(set(ends_of(entry))), 2)
        for change in itertools.product((0, 1), repeat=2):
            rest = [exchanged(entry) if turned else entry for entry, turned in zip(ONE[1:], change)]
            self.lets(1, (ONE[0], *rest))


class Clashes(unittest.TestCase):
    def test_written_out(self):
        alone, low, high = one_round(1, 0), one_round(2, 0), one_round(2, 1)
        for named, expected in [((1, 1, 1), 0), ((1, 2, 1), 0), ((1, 2, 2), 1), ((1, 1, 2), 2), ((1, 2, 3), None),
                                ((10 ** 40 - 1, 5, 10 ** 40 - 2), None), ((10 ** 40 - 1, 5, 10 ** 40 - 1), 0)]:
            assert_told(self, expected, ring_clash, dict(zip((alone, low, high), named)), ONE)

    def never_none(self, way, ring):
        at = ring_clash(way, ring)
        self.assertIsNotNone(at)
        assert_told(self, first_clash(way, ring), ring_clash, way, ring)
        greats, rounds = ring[at]
        self.assertEqual(len(set(names_by(way, greats, rounds).values())), 1)
        self.assertEqual(clash(way, greats, rounds), (0, 1))

    def test_all_ways_of_two_names_for_one_round_and_two(self):
        for many, skip in ((1, 1), (2, 5)):
            order = CIRCLES[many][0]
            for named in list(itertools.product((1, 2), repeat=len(order)))[::skip]:
                self.never_none(dict(zip(order, named)), told_ring(many))

    def test_drawn_rings_and_ways_of_two_names(self):
        chance = random.Random(97)
        for many in (1, 2, 3):
            order, edges = CIRCLES[many]
            for turn in range(25):
                two = chance.choice([(1, 2), (7, 10 ** 40 - 1)])
                way = {type_here: chance.choice(two) for type_here in order}
                if turn % 2:
                    # By turns as long as it goes: one clash alone is left.
                    way = {type_here: two[at % 2] for at, type_here in enumerate(order)}
                self.never_none(way, drawn_ring(chance, order, edges, chance.choice(BACKS[many])))

    def test_by_turns_the_clash_is_where_the_circle_closes(self):
        for many in (1, 2, 3):
            ring = told_ring(many)
            # The types along the told ring, in its order.
            along = [ends_of(ring[0])[0]]
            for entry in ring:
                along += [type_here for type_here in ends_of(entry) if type_here != along[-1]]
            self.assertEqual((len(along), along[0]), (len(ring) + 1, along[-1]))
            for shift in range(len(ring)):
                way = {}
                for step in range(len(ring)):
                    way[along[(shift + 1 + step) % len(ring)]] = 1 + step % 2
                assert_told(self, shift, ring_clash, way, ring)

    def test_none_by_three_names(self):
        chance = random.Random(98)
        for many in (1, 2, 3):
            order, edges = CIRCLES[many]
            way = {type_here: 1 + at % 3 for at, type_here in enumerate(order)}
            assert_told(self, None, ring_clash, way, told_ring(many))
            for turn in range(5):
                ring = drawn_ring(chance, order, edges, chance.choice(BACKS[many]))
                assert_told(self, None, ring_clash, way, ring)


class Told(unittest.TestCase):
    def test_of_their_kinds(self):
        for many in range(1, 5):
            ring = told_ring(many)
            self.assertIs(type(ring), tuple)
            self.assertEqual(len(ring) % 2, 1)
            self.assertLessEqual(len(ring), 81)
            for entry in ring:
                self.assertIs(type(entry), tuple)


if __name__ == "__main__":
    unittest.main()
