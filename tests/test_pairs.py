"""handnames.pairs: papers of pairs, where ways of fewer names clash in them, and what is told."""

import itertools
import random
import unittest

from handnames.errors import NoPaper
from handnames.pairs import lets_pairs, pair_clash, told_pairs, told_way
from handnames.types import clash, names_by, one_round_types
from look_model import drawn_greats, drawn_round, one_round, rounds_among
from pair_model import clashing, drawn_entry, drawn_paper, drawn_way, fault_of, first_clash, pair_of
from plain_things import ODD, assert_refused, assert_same, assert_told, swapped

MANIES = (2, 3, 4)
PAIRS = {2: 3, 3: 15, 4: 45}
BOTH = ((0, 1),)
# A paper for two hands by hand: alone and low, alone and high, low and high.
TWO = (((5, 9), (((1,), (0,)),), 0, 1), ((5, 9), (((0,), (1,)),), 0, 1), ((9, 5), (BOTH,), 0, 1))


class Pairs(unittest.TestCase):
    def lets(self, many, thing):
        assert_told(self, True, lets_pairs, many, thing)

    def refuses(self, many, thing, word, at):
        assert_refused(self, NoPaper(word, at), lets_pairs, many, thing)

    def told(self, many, paper):
        fault = fault_of(many, paper)
        if fault is None:
            self.lets(many, paper)
        else:
            self.refuses(many, paper, *fault)
        return fault


class LetBy(Pairs):
    def test_written_out(self):
        self.lets(2, TWO)
        self.lets(2, TWO[::-1])
        # One and other the other way about.
        self.lets(2, tuple((greats, rounds, other, one) for greats, rounds, one, other in TWO))

    def test_told_ones(self):
        for many in MANIES:
            self.assertIs(fault_of(many, told_pairs(many)), None)
            self.lets(many, told_pairs(many))

    def test_drawn_ones(self):
        chance = random.Random(80)
        for many in MANIES:
            for turn in range(15):
                paper = drawn_paper(chance, many)
                self.assertEqual(len(paper), PAIRS[many])
                self.lets(many, paper)

    def test_entries_in_another_order_twice_or_more(self):
        chance = random.Random(81)
        for many in MANIES:
            for turn in range(10):
                paper = list(told_pairs(many))
                more = [chance.choice([chance.choice(paper), drawn_entry(chance, many)])
                        for again in range(100 - len(paper))]
                paper += more[:chance.choice((1, 5, 100))]
                chance.shuffle(paper)
                self.lets(many, tuple(paper))

    def test_up_to_a_hundred_entries(self):
        for many in MANIES:
            for paper in (told_pairs(many), drawn_paper(random.Random(82), many)):
                for count in (98, 99, 100):
                    self.lets(many, (paper * 40)[:count])
                for count in (101, 102, 120):
                    self.refuses(many, (paper * 60)[:count], "shape", 0)

    def test_great_names_at_their_bounds(self):
        for entry in [((10 ** 9, 0), (((1,), (0,)),), 0, 1), ((0, 10 ** 9), (((1,), (0,)),), 0, 1)]:
            self.lets(2, TWO + (entry,))

    def test_rounds_of_some_hands_only(self):
        # Of three hands with great names two are in the round.
        paper = (((5, 7, 9), (((2,), (0,)),), 0, 2), ((5, 7, 9), (((0,), (2,)),), 2, 0), ((5, 7, 9), (((0, 2),),), 0, 2))
        self.assertEqual([pair_of(entry) for entry in paper], [pair_of(entry) for entry in TWO])
        self.refuses(2, paper, "entry", 0)
        self.refuses(3, paper, *fault_of(3, paper))
        self.lets(3, paper + told_pairs(3)[3:] + told_pairs(3)[:3])


class Faults(Pairs):
    def test_pairs_by_their_numbers(self):
        for many in MANIES:
            self.refuses(many, (), "pair", 0)
            paper = told_pairs(many)
            by_pair = {frozenset(pair_of(entry)): entry for entry in paper}
            pairs = itertools.combinations([(size, place) for size in range(1, many + 1) for place in range(size)], 2)
            ordered = [by_pair[frozenset(pair)] for pair in pairs]
            for number in range(PAIRS[many]):
                self.refuses(many, tuple(ordered[:number]), "pair", number)
                self.refuses(many, tuple(ordered[:number] + ordered[number + 1:]), "pair", number)
                self.refuses(many, tuple(ordered[number + 1:]), "pair", 0)

    def test_an_entry_taken_out(self):
        chance = random.Random(83)
        for many in MANIES:
            for paper in (told_pairs(many), drawn_paper(chance, many)):
                for at in range(len(paper)):
                    self.assertEqual(self.told(many, paper[:at] + paper[at + 1:])[0], "pair")

    def test_an_entry_exchanged_for_another_one(self):
        chance = random.Random(84)
        seen = [0, 0]
        for many in MANIES:
            for turn in range(60):
                paper = list(drawn_paper(chance, many) if turn % 10 == 0 else told_pairs(many))
                paper[chance.randrange(len(paper))] = drawn_entry(chance, many)
                seen[self.told(many, tuple(paper)) is None] += 1
        self.assertGreater(min(seen), 3)

    def test_the_first_of_two_pairs_that_lack(self):
        for many in MANIES:
            paper = told_pairs(many)
            for low, high in itertools.combinations(range(len(paper)), 2):
                left = tuple(entry for at, entry in enumerate(paper) if at not in (low, high))
                numbers = [fault_of(many, paper[:at] + paper[at + 1:])[1] for at in (low, high)]
                self.refuses(many, left, "pair", min(numbers))

    def test_a_paper_for_one_hand_more_or_fewer(self):
        for many in (2, 3):
            self.refuses(many + 1, told_pairs(many), *fault_of(many + 1, told_pairs(many)))
        for many in (3, 4):
            paper = told_pairs(many)
            at = [len(entry[0]) == many for entry in paper].index(True)
            self.refuses(many - 1, paper, "entry", at)

    def test_no_tuple(self):
        for many in MANIES:
            for odd in ODD + [0, 1, "paper", list(told_pairs(many)), {}]:
                if not isinstance(odd, tuple):
                    self.refuses(many, odd, "shape", 0)

    def test_odd_tuples(self):
        for many in MANIES:
            for odd in ODD:
                if isinstance(odd, tuple):
                    self.refuses(many, odd, "shape" if len(odd) > 100 else "entry", 0)

    def test_two_faults_at_once(self):
        for many in MANIES:
            paper = told_pairs(many)
            # Too many, and odd entries.
            self.refuses(many, (None,) * 101, "shape", 0)
            self.refuses(many, (None,) * 100, "entry", 0)
            # An entry that is none, and pairs that lack: of the entries the least.
            for at in range(len(paper)):
                self.refuses(many, paper[:at] + (None,), "entry", at)
                self.refuses(many, paper[:at] + (None, None) + paper[at:], "entry", at)
            self.refuses(many, paper + ((),), "entry", len(paper))

    def test_entries_that_are_none(self):
        good = ((5, 9), (BOTH,), 0, 1)
        for entry in [
            # Rounds.
            ((5, 9), (BOTH, BOTH), 0, 1), ((5, 9), (), 0, 1), ((5, 9), BOTH, 0, 1), ((5, 9), ((0, 1),), 0, 1),
            ((5, 9), (((0,), (0, 1)),), 0, 1), ((5, 9), (((1, 0),),), 0, 1), ((5, 9), (((0, 1), ()),), 0, 1),
            ((5, 9), (((0, 1, 2),),), 0, 1), ((5, 9), (((0,), (2,)),), 0, 2), ((5, 9), ((),), 0, 1),
            ((5, 9), (((False, True),),), 0, 1), ((5, 9), (((0, True),),), 0, 1), ((5, 9), [BOTH], 0, 1),
            ((5, 9), ([(0, 1)],), 0, 1), ((5, 9), (([0, 1],),), 0, 1), ((5, 9), None, 0, 1),
            # Hands.
            ((5, 9), (BOTH,), 0, 0), ((5, 9), (BOTH,), 1, 1), ((5, 9), (BOTH,), 0, 2), ((5, 9), (BOTH,), -1, 0),
            ((5, 9), (((0,),),), 0, 1), ((5, 9), (((1,),),), 0, 1), ((5, 9), (((0,),),), 0, 0),
            ((5, 9), (BOTH,), 0, True), ((5, 9), (BOTH,), False, 1), ((5, 9), (BOTH,), False, True),
            ((5, 9), (BOTH,), "0", 1), ((5, 9), (BOTH,), None, 1), ((5, 9), (BOTH,), (0,), (1,)),
            ((5, 9), (BOTH,), [0], 1), ((5, 9), (BOTH,), 0, 10 ** 39),
            # Great names.
            ((5, 5), (BOTH,), 0, 1), ((5, -1), (BOTH,), 0, 1), ((5, 10 ** 9 + 1), (BOTH,), 0, 1),
            ((5, True), (BOTH,), 0, 1), ((False, True), (BOTH,), 0, 1), ([5, 9], (BOTH,), 0, 1), ((), (BOTH,), 0, 1),
            ((5,), (BOTH,), 0, 1), ((5, "9"), (BOTH,), 0, 1), ((5, None), (BOTH,), 0, 1), (None, (BOTH,), 0, 1),
            (5, (BOTH,), 0, 1), ((5, 9, 10, 11, 12), (BOTH,), 0, 1), (tuple(range(7)), (BOTH,), 0, 1),
            # Parts.
            good[:3], good + (0,), good[1:], good[:2], (good,), list(good), (), ((5, 9), (BOTH,), (0, 1)),
            ((5, 9), (BOTH,), 1, 0, None),
        ]:
            for many in MANIES:
                paper = told_pairs(many)
                self.refuses(many, paper + (entry,), "entry", len(paper))
                self.refuses(many, (entry,) + paper, "entry", 0)
                self.refuses(many, paper[:1] + (entry,) + paper, "entry", 1)
        for many in MANIES:
            self.lets(many, (good,) + told_pairs(many))

    def test_great_names_too_many(self):
        for many in MANIES:
            for hands in range(2, 7):
                entry = (tuple(range(hands)), (BOTH,), 0, 1)
                if hands <= many:
                    self.lets(many, (entry,) + told_pairs(many))
                else:
                    self.refuses(many, (entry,) + told_pairs(many), "entry", 0)

    def test_hands_that_have_a_great_name_but_are_not_in_the_round(self):
        entry = ((5, 9, 7), (((0,), (2,)),), 0, 2)
        self.lets(3, told_pairs(3) + (entry,))
        for one, other in [(0, 1), (1, 2), (1, 0), (2, 1)]:
            self.refuses(3, told_pairs(3) + (entry[:2] + (one, other),), "entry", 15)

    def test_any_part_swapped(self):
        entry = ((5, 9), (((1,), (0,)),), 0, 1)
        seen = [0, 0]
        for odd in ODD + [0, 1, 2, (), (0,), (1,), (0, 1), ((0, 1),), (((0, 1),),), (5, 9), (9, 5, 7)]:
            for thing in swapped(entry, odd):
                # Great names may be any numbers, 6 and 7 of the odd things among them, and in any order.
                fits = self.fits(thing)
                seen[fits] += 1
                if fits:
                    self.lets(2, TWO + (thing,))
                else:
                    self.refuses(2, TWO + (thing,), "entry", 3)
        self.assertGreater(min(seen), 3)

    def fits(self, thing):
        """Whether the thing is an entry for two hands: by its look as a text, then by its numbers."""
        if not (isinstance(thing, tuple) and len(thing) == 4 and repr(thing[2:]) in ("(0, 1)", "(1, 0)")):
            return False
        if repr(thing[1]) not in ("(((0, 1),),)", "(((0,), (1,)),)", "(((1,), (0,)),)"):
            return False
        greats = thing[0]
        if not (isinstance(greats, tuple) and len(greats) == 2 and all(type(great) is int for great in greats)):
            return False
        return greats[0] != greats[1] and all(0 <= great <= 10 ** 9 for great in greats)


class Clashes(unittest.TestCase):
    def test_written_out(self):
        solo, low, high = one_round(1, 0), one_round(2, 0), one_round(2, 1)
        for named, expected in [((1, 1, 2), 0), ((1, 2, 1), 1), ((2, 1, 1), 2), ((1, 1, 1), 0), ((1, 2, 3), None),
                                ((10 ** 39, 10 ** 39 + 1, 10 ** 39), 1)]:
            way = dict(zip((solo, low, high), named))
            assert_told(self, expected, pair_clash, way, TWO)

    def test_never_none_by_a_way_of_fewer_names(self):
        chance = random.Random(85)
        for many in MANIES:
            few = many * (many + 1) // 2 - 1
            papers = [told_pairs(many)] + [drawn_paper(chance, many) for turn in range(5)]
            for turn in range(60):
                way = drawn_way(chance, many, chance.choice((1, 2, few, few)))
                paper = chance.choice(papers)
                at = pair_clash(way, paper)
                self.assertIsNotNone(at)
                assert_told(self, first_clash(way, paper), pair_clash, way, paper)
                self.assertTrue(clashing(way, paper[at]))
                greats, rounds, one, other = paper[at]
                named = names_by(way, greats, rounds)
                self.assertEqual(named[one], named[other])
                self.assertIsNotNone(clash(way, greats, rounds))

    def test_all_ways_of_two_names_for_two_hands(self):
        for named in itertools.product((1, 2), repeat=3):
            way = dict(zip(one_round_types(2), named))
            for paper in (TWO, told_pairs(2)):
                assert_told(self, first_clash(way, paper), pair_clash, way, paper)
                self.assertIsNotNone(pair_clash(way, paper))

    def test_two_types_alike_are_found_wherever_they_are(self):
        for many in MANIES:
            for one, other in itertools.combinations(one_round_types(many), 2):
                way = told_way(many)
                way[one] = way[other]
                assert_told(self, first_clash(way, told_pairs(many)), pair_clash, way, told_pairs(many))
                self.assertIsNotNone(pair_clash(way, told_pairs(many)))

    def test_none_where_all_names_are_unlike(self):
        chance = random.Random(86)
        for many in MANIES:
            for turn in range(10):
                named = chance.sample(range(1, 10 ** 15), many * (many + 1) // 2)
                way = {type_here: name * 10 ** 24 for type_here, name in zip(one_round_types(many), named)}
                paper = drawn_paper(chance, many) if turn % 2 else told_pairs(many)
                assert_told(self, None, pair_clash, way, paper)

    def test_a_way_that_has_more_types(self):
        way = told_way(4)
        assert_told(self, None, pair_clash, way, told_pairs(2))
        way[one_round(2, 0)] = 1
        assert_told(self, first_clash(way, told_pairs(3)), pair_clash, way, told_pairs(3))

    def test_the_entrys_two_hands_alone_count(self):
        # Hands 0 and 2 have one name, but the entry is of others.
        way = told_way(3)
        way[one_round(3, 0)] = way[one_round(3, 2)]
        entry = ((1, 2, 3), (((0, 1, 2),),), 0, 1)
        assert_told(self, None, pair_clash, way, (entry,))
        assert_told(self, 1, pair_clash, way, (entry, entry[:2] + (2, 0)))


class Told(unittest.TestCase):
    def test_pairs_are_of_their_kinds(self):
        for many in MANIES:
            paper = told_pairs(many)
            self.assertIs(type(paper), tuple)
            self.assertLessEqual(len(paper), 100)
            self.assertIs(lets_pairs(many, paper), True)

    def test_way(self):
        nought, one = (0, ()), (1, ())
        assert_told(self, {(0, (nought,)): 1}, told_way, 1)
        assert_told(self, {(0, (nought,)): 1, (0, (nought, one)): 2, (1, (nought, one)): 3}, told_way, 2)
        for many in range(1, 5):
            expected = [one_round(size, place) for size in range(1, many + 1) for place in range(size)]
            way = told_way(many)
            self.assertIs(type(way), dict)
            assert_same(self, sorted(way.items(), key=lambda item: item[1]),
                        [(type_here, number + 1) for number, type_here in enumerate(expected)])

    def test_the_way_never_clashes(self):
        for many in range(1, 5):
            way = told_way(many)
            for greats in itertools.permutations(range(many)):
                for one in rounds_among(range(many)):
                    self.assertIsNone(clash(way, greats, (one,)))

    def test_the_way_never_clashes_among_more_hands(self):
        chance = random.Random(87)
        for turn in range(200):
            many = chance.randrange(1, 5)
            one = drawn_round(chance, chance.sample(range(6), chance.randrange(1, many + 1)))
            self.assertIsNone(clash(told_way(many), drawn_greats(chance, 6), (one,)))

    def test_a_told_dict_is_the_askers_own(self):
        for many in range(1, 5):
            told = told_way(many)
            before = repr(told)
            told[one_round(1, 0)] = 77
            told["more"] = 1
            self.assertEqual(repr(told_way(many)), before)


if __name__ == "__main__":
    unittest.main()
