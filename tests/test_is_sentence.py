"""handnames.sentences.is_sentence: of any thing, whether it is a SENTENCE."""

import copy
import itertools
import random
import unittest

from handnames.sentences import is_sentence
from plain_things import ODD, WORDS, assert_same, nested, swapped

LETS = {"each": {0}, "some": {0}, "pairs": {0, 1}, "plain": set()}
FREE = ("free",)
CLOSED = ("closed",)
# Each kind of FORMULA: plain, of 0, of 1, of both.
OF_NONE = [FREE, CLOSED, ("not", FREE), ("both", FREE, CLOSED), ("either", CLOSED, FREE)]
OF_0 = [
    ("at", 0, ("out",)), ("at", 0, ()), ("mark", 0), ("not", ("mark", 0)), ("both", ("mark", 0), FREE),
    ("both", FREE, ("mark", 0)), ("either", ("at", 0, WORDS), CLOSED), ("either", CLOSED, ("at", 0, WORDS)),
]


def turned(formula):
    """The FORMULA with 1 in place of 0."""
    if isinstance(formula, tuple):
        return tuple(turned(part) for part in formula)
    return 1 if formula == 0 else formula


OF_1 = [turned(formula) for formula in OF_0]
OF_BOTH = [(word, one, other) for word in ("both", "either") for one in OF_0[:4] for other in OF_1[:4]]
OF_BOTH += [(word, other, one) for word, one, other in OF_BOTH]


def chain(many):
    """So many FORMULAS within one another, one alone at each level."""
    formula = FREE
    for level in range(many - 1):
        formula = ("not", formula)
    return formula


def tree(many):
    """A FORMULA in which so many are, as flat as may be."""
    if many == 1:
        return FREE
    if many == 2:
        return ("not", CLOSED)
    left = (many - 1) // 2
    return ("both", tree(left), tree(many - 1 - left))


class IsSentence(unittest.TestCase):
    def told(self, thing, expected):
        before = copy.deepcopy(thing)
        self.assertIs(is_sentence(thing), expected, repr(thing)[:300])
        assert_same(self, thing, before)

    def told_of_formula(self, formula, expected):
        """Of a FORMULA without 0 and 1: in each kind of SENTENCE."""
        for word in LETS:
            self.told((word, formula), expected)

    def test_each_kind_with_what_it_lets(self):
        for word, lets in LETS.items():
            for formulas, hands in ((OF_NONE, set()), (OF_0, {0}), (OF_1, {1}), (OF_BOTH, {0, 1})):
                for formula in formulas:
                    self.told((word, formula), hands <= lets)

    def test_a_hand_deep_within(self):
        for word, lets in LETS.items():
            for hand in (0, 1):
                formula = ("mark", hand)
                for level in range(7):
                    self.told((word, formula), hand in lets)
                    formula = [("not", formula), ("both", FREE, formula), ("either", formula, FREE)][level % 3]

    def test_what_is_no_0_and_no_1(self):
        for odd in ODD + ["1", (), (1,), [0], 2, -1, 10, 10 ** 39]:
            for word in LETS:
                self.told((word, ("mark", odd)), False)
                self.told((word, ("at", odd, ("out",))), False)
        self.told(("each", ("mark", False)), False)
        self.told(("pairs", ("mark", True)), False)
        self.told(("pairs", ("at", True, ("out",))), False)
        self.told(("some", ("at", False, ())), False)

    def test_words_in_any_order(self):
        for many in (0, 1, 2, 3):
            for words in itertools.permutations(WORDS, many):
                self.told(("each", ("at", 0, words)), True)
                self.told(("pairs", ("at", 1, words)), True)
        self.told(("some", ("at", 0, WORDS)), True)
        self.told(("some", ("at", 0, WORDS[::-1])), True)
        self.told(("pairs", ("at", 1, WORDS[3:] + WORDS[:3])), True)

    def test_words_twice(self):
        for word in WORDS:
            self.told(("each", ("at", 0, (word, word))), False)
            self.told(("each", ("at", 0, WORDS + (word,))), False)
            self.told(("each", ("at", 0, (word,) + WORDS[::-1])), False)

    def test_words_that_are_none(self):
        for odd in ODD + ["mark", "free", "OUT", "out ", "o", 0, 1, (), ("out",)]:
            self.told(("each", ("at", 0, (odd,))), False)
            self.told(("each", ("at", 0, ("out", odd, "down"))), False)
            self.told(("each", ("at", 0, WORDS[:6] + (odd,))), False)

    def test_no_tuple_of_words(self):
        for odd in (None, True, 0, "", "out", [], ["out"], list(WORDS), (["out"],), (("out",),), nested(50)):
            self.told(("each", ("at", 0, odd)), False)

    def test_twenty_in_one_and_twenty_one(self):
        for many in range(1, 21):
            self.told_of_formula(tree(many), True)
        for many in (21, 22, 23, 24, 25, 40, 100):
            self.told_of_formula(tree(many), False)

    def test_twenty_of_any_build(self):
        for word in ("both", "either"):
            for left in range(1, 19):
                self.told_of_formula((word, tree(left), tree(19 - left)), True)
                self.told_of_formula((word, tree(left), tree(20 - left)), False)
        self.told_of_formula(("not", tree(19)), True)
        self.told_of_formula(("not", tree(20)), False)

    def test_eight_within_one_another_and_nine(self):
        for many in range(1, 9):
            self.told_of_formula(chain(many), True)
        for many in (9, 10, 20, 21, 55):
            self.told_of_formula(chain(many), False)

    def test_eight_on_either_side(self):
        for word in ("both", "either"):
            for many in range(1, 12):
                self.told_of_formula((word, chain(many), FREE), many <= 7)
                self.told_of_formula((word, FREE, chain(many)), many <= 7)
                self.told_of_formula(("not", (word, chain(many), FREE)), many <= 6)
                self.told_of_formula(("not", (word, CLOSED, chain(many))), many <= 6)

    def test_leaning_to_one_side(self):
        for word in ("both", "either"):
            left = right = FREE
            for level in range(2, 11):
                left, right = (word, left, CLOSED), (word, CLOSED, right)
                self.told_of_formula(left, level <= 8)
                self.told_of_formula(right, level <= 8)

    def test_one_shared_within_itself_again_and_again(self):
        formula = FREE
        for level in range(2, 60):
            formula = ("both", formula, formula)
            self.assertIs(is_sentence(("plain", formula)), level <= 4)

    def test_parts_more_or_fewer(self):
        for formula in OF_NONE + OF_0:
            for part in (None, 0, "out", FREE, ()):
                self.told(("each", formula + (part,)), False)
            self.told(("each", formula[:-1]), False)
        for formula in [("mark", 0, 0), ("both", FREE, FREE, FREE), ("not", FREE, FREE), ("both", FREE),
                        ("either",), ("not",), ("at", 0), ("mark",), ("free", 0), ("closed", False), (), (())]:
            self.told(("each", formula), False)
        for word in LETS:
            self.told((word,), False)
            self.told((word, FREE, FREE), False)
            self.told((word, FREE, None), False)
        self.told((), False)
        self.told(FREE, False)

    def test_lists_in_place_of_tuples(self):
        for formula in OF_NONE + OF_0:
            self.told(["each", formula], False)
            self.told(("each", list(formula)), False)
            self.told(("each", ("not", list(formula))), False)
            self.told(("each", ("both", formula, list(formula))), False)
            self.told(("each", ("either", list(formula), formula)), False)

    def test_words_of_sentences_that_are_none(self):
        for odd in ODD + ["Each", "eac", "pair", "none", "not", "at", 0, 1, (), ("each",), ["each"]]:
            self.told((odd, FREE), odd == "each")
        for odd in ODD + ["Not", "and", "or", "both ", "open", "each", "some", "plain", 0, (), ("not",), ["not"]]:
            self.told(("each", (odd,)), False)
            self.told(("each", (odd, FREE)), False)
            self.told(("each", (odd, FREE, FREE)), False)
            self.told(("each", (odd, 0, ("out",))), False)

    def test_a_sentence_is_no_formula(self):
        self.told(("each", ("each", FREE)), False)
        self.told(("not", ("each", FREE)), False)
        self.told(("each", ("not", ("plain", FREE))), False)

    def test_odd_things(self):
        for odd in ODD + [0, 1, (), "each", ("each", "free")]:
            self.told(odd, False)
            for word in LETS:
                self.told((word, odd), False)
                self.told((word, ("not", odd)), False)
                self.told((word, ("both", odd, FREE)), False)
                self.told((word, ("either", FREE, odd)), False)

    def test_an_odd_thing_at_any_place_of_a_sentence(self):
        sentence = ("pairs", ("either", ("not", ("both", ("at", 0, ("out", "look")), ("mark", 1))), ("closed",)))
        self.told(sentence, True)
        for odd in (None, True, False, 2, -1, "", "x", [], [0], ["out"], ("x",), (0,), nested(50)):
            for thing in swapped(sentence, odd):
                self.told(thing, False)


class ByBuilding(unittest.TestCase):
    """Of things whose number, levels and hands are known from how they were built."""

    def build(self, chance, many):
        """(formula, many in it, levels, hands)."""
        if many < 2:
            leaves = [(FREE, set()), (CLOSED, set())]
            for hand in (0, 1):
                leaves.append((("mark", hand), {hand}))
                leaves.append((("at", hand, tuple(chance.sample(WORDS, chance.randrange(8)))), {hand}))
            formula, hands = chance.choice(leaves)
            return formula, 1, 1, hands
        if many == 2 or chance.random() < 0.2:
            formula, inner, levels, hands = self.build(chance, many - 1)
            return ("not", formula), inner + 1, levels + 1, hands
        left = chance.randrange(1, many - 1)
        one = self.build(chance, left)
        other = self.build(chance, many - 1 - left)
        word = chance.choice(("both", "either"))
        return (word, one[0], other[0]), one[1] + other[1] + 1, max(one[2], other[2]) + 1, one[3] | other[3]

    def test_built_by_chance(self):
        chance = random.Random(15)
        seen = {True: 0, False: 0}
        for turn in range(6000):
            formula, many, levels, hands = self.build(chance, chance.randrange(1, 26))
            for word, lets in LETS.items():
                expected = many <= 20 and levels <= 8 and hands <= lets
                self.assertIs(is_sentence((word, formula)), expected, (word, formula))
                seen[expected] += 1
        self.assertGreater(min(seen.values()), 1000)


if __name__ == "__main__":
    unittest.main()
