"""handnames.sentences.is_so: of a STAND, whether a SENTENCE is so there."""

import copy
import itertools
import random
import unittest

from handnames.deciders import all_deciders, found_deciders
from handnames.sentences import is_sentence, is_so
from plain_things import WORDS, assert_same, every_stand

FREE = ("free",)
CLOSED = ("closed",)
NEVER = ("both", FREE, ("not", FREE))
ALWAYS = ("either", FREE, ("not", FREE))


class IsSo(unittest.TestCase):
    def told(self, stand, sentence, expected):
        before = copy.deepcopy((stand, sentence))
        self.assertIs(is_sentence(sentence), True, sentence)
        self.assertIs(is_so(stand, sentence), expected, (stand, sentence))
        assert_same(self, (stand, sentence), before)


class Formulas(IsSo):
    def test_at(self):
        for word in WORDS:
            stand = (None, False, (word,))
            self.told(stand, ("each", ("at", 0, ())), False)
            self.told(stand, ("each", ("at", 0, WORDS)), True)
            for other in WORDS:
                self.told(stand, ("each", ("at", 0, (other,))), word == other)
                rest = tuple(name for name in WORDS if name != other)
                self.told(stand, ("each", ("at", 0, rest)), word != other)
                self.told(stand, ("each", ("at", 0, rest[::-1])), word != other)

    def test_mark(self):
        self.told((0, False, ("ask",)), ("each", ("mark", 0)), True)
        self.told((None, False, ("ask",)), ("each", ("mark", 0)), False)
        for many in range(2, 7):
            words = ("out",) * many
            for mark in range(many):
                self.told((mark, False, words), ("some", ("mark", 0)), True)
                self.told((mark, False, words), ("each", ("mark", 0)), False)
                where = words[:mark] + ("look",) + words[mark + 1:]
                self.told((mark, False, where), ("some", ("both", ("mark", 0), ("at", 0, ("look",)))), True)
                self.told((mark, False, where), ("some", ("both", ("mark", 0), ("at", 0, ("out",)))), False)
            self.told((None, False, words), ("some", ("mark", 0)), False)

    def test_free_and_closed(self):
        for word in ("each", "some", "pairs", "plain"):
            for mark in (None, 0, 1):
                for closed in (False, True):
                    stand = (mark, closed, ("out", "ask"))
                    self.told(stand, (word, FREE), mark is None)
                    self.told(stand, (word, ("not", FREE)), mark is not None)
                    self.told(stand, (word, CLOSED), closed)
                    self.told(stand, (word, ("not", CLOSED)), not closed)

    def test_both_and_either(self):
        for mark, closed in itertools.product((None, 0), (False, True)):
            stand = (mark, closed, ("out",))
            free = mark is None
            self.told(stand, ("plain", ("both", FREE, CLOSED)), free and closed)
            self.told(stand, ("plain", ("both", CLOSED, FREE)), free and closed)
            self.told(stand, ("plain", ("either", FREE, CLOSED)), free or closed)
            self.told(stand, ("plain", ("either", CLOSED, FREE)), free or closed)
            self.told(stand, ("plain", ("not", ("either", FREE, CLOSED))), not (free or closed))
            self.told(stand, ("plain", ("not", ("not", ("both", FREE, CLOSED)))), free and closed)


class Sentences(IsSo):
    def test_each_and_some(self):
        out = ("at", 0, ("out",))
        for many in range(1, 7):
            for outs in itertools.product((True, False), repeat=many):
                stand = (None, False, tuple("out" if here else "down" for here in outs))
                self.told(stand, ("each", out), all(outs))
                self.told(stand, ("some", out), any(outs))
                self.told(stand, ("each", ("not", out)), not any(outs))
                self.told(stand, ("some", ("not", out)), not all(outs))

    def test_pairs_of_unlike_hands(self):
        one_holds = ("pairs", ("not", ("both", ("at", 0, ("holds",)), ("at", 1, ("holds",)))))
        for many in range(2, 7):
            for holds in itertools.product((True, False), repeat=many):
                stand = (None, True, tuple("holds" if here else "down" for here in holds))
                self.told(stand, one_holds, sum(holds) <= 1)

    def test_pairs_either_way_about(self):
        for many in range(2, 7):
            for place in range(many):
                words = ("ask",) * place + ("look",) + ("ask",) * (many - place - 1)
                stand = (place, False, words)
                self.told(stand, ("pairs", ("at", 0, ("look",))), False)
                self.told(stand, ("pairs", ("at", 1, ("look",))), False)
                self.told(stand, ("pairs", ("not", ("at", 0, ("look",)))), False)
                self.told(stand, ("pairs", ("not", ("at", 1, ("look",)))), False)
                self.told(stand, ("pairs", ("not", ("mark", 0))), False)
                self.told(stand, ("pairs", ("not", ("mark", 1))), False)
                self.told(stand, ("pairs", ("either", ("not", ("mark", 0)), ("at", 1, ("ask",)))), True)
                self.told(stand, ("pairs", ("either", ("not", ("mark", 1)), ("at", 0, ("ask",)))), True)
                self.told(stand, ("pairs", ("either", ("not", ("mark", 1)), ("at", 0, ("look",)))), False)
                self.told(stand, ("pairs", ("not", ("both", ("mark", 0), ("mark", 1)))), True)

    def test_pairs_of_two_hands_one_way_alone(self):
        formula = ("both", ("at", 0, ("out",)), ("at", 1, ("down",)))
        self.told((None, False, ("out", "down")), ("pairs", formula), False)
        self.told((None, False, ("down", "out")), ("pairs", formula), False)
        self.told((None, False, ("out", "down")), ("pairs", ("not", formula)), False)
        self.told((None, False, ("down", "out")), ("pairs", ("not", formula)), False)
        self.told((None, False, ("out", "out")), ("pairs", ("not", formula)), True)

    def test_of_one_hand_alone(self):
        for stand in every_stand(1):
            self.told(stand, ("pairs", NEVER), True)
            self.told(stand, ("pairs", ("mark", 1)), True)
            self.told(stand, ("pairs", ALWAYS), True)
            self.told(stand, ("each", NEVER), False)
            self.told(stand, ("some", NEVER), False)
            self.told(stand, ("plain", NEVER), False)
            self.told(stand, ("some", ALWAYS), True)

    def test_of_more_hands_a_pair_is_asked(self):
        for many in range(2, 7):
            stand = (None, False, ("out",) * many)
            for word in ("each", "some", "pairs", "plain"):
                self.told(stand, (word, NEVER), False)
                self.told(stand, (word, ALWAYS), True)

    def test_what_deciders_keep(self):
        kept = [
            ("pairs", ("not", ("both", ("at", 0, ("holds",)), ("at", 1, ("holds",))))),
            ("some", ("not", ("at", 0, ("right",)))),
            ("some", ("not", ("at", 0, ("down",)))),
            ("each", ("either", ("not", FREE), ("at", 0, ("out",)))),
        ]
        for many in (1, 2, 3):
            for stand in found_deciders(many):
                for sentence in kept:
                    self.told(stand, sentence, True)
            for sentence in kept[1:]:
                self.assertIn(False, [is_so(stand, sentence) for stand in all_deciders(many)])


class AgainstPython(IsSo):
    """FORMULAS built along with a function of Python that says the same."""

    def build(self, chance, hands, levels):
        if levels == 1 or chance.random() < 0.15:
            return self.leaf(chance, hands)
        one, says_one = self.build(chance, hands, levels - 1)
        other, says_other = self.build(chance, hands, levels - 1)
        return chance.choice([
            (("not", one), lambda stand, pair: not says_one(stand, pair)),
            (("both", one, other), lambda stand, pair: says_one(stand, pair) and says_other(stand, pair)),
            (("either", one, other), lambda stand, pair: says_one(stand, pair) or says_other(stand, pair)),
        ])

    def leaf(self, chance, hands):
        leaves = [
            (FREE, lambda stand, pair: stand[0] is None),
            (CLOSED, lambda stand, pair: stand[1]),
        ]
        if hands:
            hand = chance.choice(hands)
            words = tuple(chance.sample(WORDS, chance.randrange(8)))
            leaves += [
                (("mark", hand), lambda stand, pair: stand[0] is not None and stand[0] == pair[hand]),
                (("at", hand, words), lambda stand, pair: stand[2][pair[hand]] in words),
            ] * 2
        return chance.choice(leaves)

    def expected(self, word, says, stand):
        hands = range(len(stand[2]))
        if word == "plain":
            return says(stand, None)
        if word == "each":
            return all(says(stand, (hand, None)) for hand in hands)
        if word == "some":
            return any(says(stand, (hand, None)) for hand in hands)
        return all(says(stand, pair) for pair in itertools.permutations(hands, 2))

    def test_built_by_chance(self):
        chance = random.Random(14)
        stands = {many: every_stand(many) for many in (1, 2, 3)}
        lets = {"each": (0,), "some": (0,), "pairs": (0, 1), "plain": ()}
        seen = {True: 0, False: 0}
        for turn in range(800):
            for word, hands in lets.items():
                formula, says = self.build(chance, hands, chance.randrange(1, 5))
                for many in (1, 2, 3):
                    for stand in chance.sample(stands[many], 12):
                        expected = self.expected(word, says, stand)
                        self.told(stand, (word, formula), expected)
                        seen[expected] += 1
        self.assertGreater(min(seen.values()), 5000)


if __name__ == "__main__":
    unittest.main()
