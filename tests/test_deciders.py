"""handnames.deciders: what a STAND is, the first one, a step, all of them, those that are come to."""

import copy
import unittest

from handnames.deciders import all_deciders, first_decider, found_deciders, is_decider, step_decider
from handnames.errors import HandError, NoStep
from plain_things import ODD, WORDS, assert_same, every_stand


def some_stands(many):
    """Stands of any number of hands: each mark, each shutter, the words turned about."""
    for mark in [None, *range(many)]:
        for closed in (False, True):
            for turn in range(len(WORDS)):
                yield (mark, closed, tuple(WORDS[(turn + 3 * hand) % 7] for hand in range(many)))


class IsDecider(unittest.TestCase):
    def told(self, many, thing, expected):
        before = copy.deepcopy(thing)
        answer = is_decider(many, thing)
        self.assertIs(answer, expected, f"{many} hands: {repr(thing)[:200]}")
        assert_same(self, thing, before)

    def test_every_stand_of_up_to_three_hands(self):
        for many in (1, 2, 3):
            for stand in every_stand(many):
                self.told(many, stand, True)

    def test_stands_of_up_to_six_hands(self):
        for many in range(1, 7):
            for stand in some_stands(many):
                self.told(many, stand, True)

    def test_of_another_number_of_hands(self):
        for many in range(1, 7):
            for other in range(1, 7):
                self.told(many, (None, False, ("out",) * other), many == other)
                self.told(many, (0, True, ("look",) * other), many == other)
            self.told(many, (None, False, ()), False)

    def test_marks(self):
        for many in range(1, 7):
            words = ("ask",) * many
            for hand in range(many):
                self.told(many, (hand, False, words), True)
            for mark in (many, many + 1, -1, -many, 10 ** 39, -(10 ** 39)):
                self.told(many, (mark, False, words), False)
            for mark in (True, False, "0", "", (), (0,), [0], [], "None"):
                self.told(many, (mark, False, words), False)

    def test_shutters(self):
        for many in range(1, 7):
            words = ("look",) * many
            for closed in (0, 1, None, "", "True", "closed", (), (True,), [False], 2, -1):
                self.told(many, (0, closed, words), False)
                self.told(many, (None, closed, words), False)

    def test_words(self):
        for many in range(1, 7):
            for odd in ODD + ["mark", "free", "OUT", "out ", "ou", "rests", ("out",), 0, 1, ()]:
                for at in range(many):
                    words = ["down"] * many
                    words[at] = odd
                    self.told(many, (0, True, tuple(words)), False)

    def test_a_text_or_an_odd_thing_in_place_of_the_words(self):
        for many in range(1, 7):
            for odd in ODD + [(), 0, 1, "o" * many, "out", [None] * many, ["out"] * many, ("x",) * many]:
                self.told(many, (None, False, odd), repr(odd) == "('out',)" and many == 1)

    def test_lists_in_place_of_tuples(self):
        for many in range(1, 7):
            for mark, closed, words in some_stands(many):
                self.told(many, [mark, closed, words], False)
                self.told(many, (mark, closed, list(words)), False)
                self.told(many, [mark, closed, list(words)], False)

    def test_a_part_more_or_fewer(self):
        for many in range(1, 7):
            stand = (0, True, ("right",) * many)
            for thing in (stand + (None,), stand + (stand[2],), (None,) + stand, stand[:2], stand[1:], stand[:1], ()):
                self.told(many, thing, False)
            self.told(many, (stand,), False)

    def test_odd_things(self):
        for many in range(1, 7):
            for odd in ODD + [0, 1, (), "(None, False, ('out',))", "abc", (0, 1, 2), [0, 1, 2]]:
                self.told(many, odd, False)


class Steps(unittest.TestCase):
    def refused(self, stand, hand):
        before = copy.deepcopy(stand)
        with self.assertRaises(NoStep) as caught:
            step_decider(stand, hand)
        assert_same(self, caught.exception.hand, hand)
        self.assertIsInstance(caught.exception, HandError)
        assert_same(self, stand, before)

    def steps(self, stand, hand, behind):
        before = copy.deepcopy(stand)
        assert_same(self, step_decider(stand, hand), behind)
        assert_same(self, stand, before)

    def test_first_stand(self):
        assert_same(self, first_decider(1), (None, False, ("out",)))
        assert_same(self, first_decider(2), (None, False, ("out", "out")))
        for many in range(1, 7):
            assert_same(self, first_decider(many), (None, False, tuple(["out"] * many)))
            self.assertIs(is_decider(many, first_decider(many)), True)

    def test_a_hand_alone_holds(self):
        stand = first_decider(1)
        for behind in [
            (0, False, ("ask",)), (0, False, ("close",)), (0, True, ("look",)), (0, True, ("holds",)),
        ]:
            self.steps(stand, 0, behind)
            stand = behind
        self.refused(stand, 0)

    def test_written_out_for_two_hands(self):
        for behind_other in WORDS:
            words = lambda word: (behind_other, word)
            for mark in (None, 0, 1):
                for closed in (False, True):
                    self.steps((mark, closed, words("out")), 1, (1, closed, words("ask")))
                    self.steps((mark, closed, words("close")), 1, (mark, True, words("look")))
                    for ended in ("holds", "right", "down"):
                        self.refused((mark, closed, words(ended)), 1)
                self.steps((mark, False, words("ask")), 1, (mark, False, words("close")))
                self.steps((mark, True, words("ask")), 1, (mark, True, words("right")))
            for closed in (False, True):
                self.steps((1, closed, words("look")), 1, (1, closed, words("holds")))
                self.steps((0, closed, words("look")), 1, (0, closed, words("down")))
                self.steps((None, closed, words("look")), 1, (None, closed, words("down")))

    def test_each_hand_of_up_to_six(self):
        for many in range(1, 7):
            for mark, closed, words in some_stands(many):
                for hand, word in enumerate(words):
                    self.one_step((mark, closed, words), hand, word)

    def one_step(self, stand, hand, word):
        mark, closed, words = stand
        ways = {
            "out": (hand, closed, "ask"),
            "ask": (mark, closed, {True: "right", False: "close"}[closed]),
            "close": (mark, True, "look"),
            "look": (mark, closed, "holds" if mark is not None and mark == hand else "down"),
        }
        if word not in ways:
            self.refused(stand, hand)
            return
        told_mark, told_closed, told_word = ways[word]
        told_words = list(words)
        told_words[hand] = told_word
        self.steps(stand, hand, (told_mark, told_closed, tuple(told_words)))
        self.assertIs(is_decider(len(words), step_decider(stand, hand)), True)

    def test_every_stand_of_up_to_three_hands(self):
        for many in (1, 2, 3):
            for stand in every_stand(many):
                for hand, word in enumerate(stand[2]):
                    self.one_step(stand, hand, word)


class ModelHands:
    """A decider told once more, by boxes that are changed: not the program's own way."""

    def __init__(self, many):
        self.mark, self.closed, self.words = None, False, ["out"] * many

    def step(self, hand):
        word = self.words[hand]
        if word == "out":
            self.mark, self.words[hand] = hand, "ask"
        elif word == "ask":
            self.words[hand] = "right" if self.closed else "close"
        elif word == "close":
            self.closed, self.words[hand] = True, "look"
        elif word == "look":
            self.words[hand] = "holds" if self.mark == hand else "down"

    def stand(self):
        return (self.mark, self.closed, tuple(self.words))


def woven_stands(many):
    """All stands that weavings come to: of each new one each hand's step, made anew from the first stand."""
    found = {ModelHands(many).stand(): ()}
    waiting = [()]
    while waiting:
        weaving = waiting.pop()
        for hand in range(many):
            here = ModelHands(many)
            for mover in weaving + (hand,):
                here.step(mover)
            if here.stand() not in found:
                found[here.stand()] = weaving + (hand,)
                waiting.append(weaving + (hand,))
    return found


class Lists(unittest.TestCase):
    def test_all_in_the_told_order(self):
        for many, count in ((1, 28), (2, 294), (3, 2744)):
            told = all_deciders(many)
            self.assertIs(type(told), list)
            self.assertEqual(len(told), count)
            assert_same(self, told, every_stand(many))

    def test_all_begins_and_goes_on_as_told(self):
        told = all_deciders(2)
        words = [stand[2] for stand in told[:8]]
        assert_same(self, words, [("out", word) for word in WORDS] + [("ask", "out")])
        assert_same(self, told[0], (None, False, ("out", "out")))
        assert_same(self, told[49], (None, True, ("out", "out")))
        assert_same(self, told[98], (0, False, ("out", "out")))
        assert_same(self, told[196], (1, False, ("out", "out")))
        assert_same(self, told[-1], (1, True, ("down", "down")))

    def test_found_of_one_hand(self):
        assert_same(self, found_deciders(1), [
            (None, False, ("out",)),
            (0, False, ("ask",)), (0, False, ("close",)),
            (0, True, ("look",)), (0, True, ("holds",)),
        ])

    def test_found_are_those_that_weavings_come_to(self):
        for many, count in ((1, 5), (2, 53), (3, 523)):
            told = found_deciders(many)
            woven = woven_stands(many)
            self.assertIs(type(told), list)
            self.assertEqual(len(told), count)
            assert_same(self, told, [stand for stand in every_stand(many) if stand in woven])

    def test_told_lists_are_the_askers_own(self):
        for ask in (all_deciders, found_deciders):
            for many in (1, 2, 3):
                before = repr(ask(many))
                told = ask(many)
                told.reverse()
                told.append("more")
                told[0] = None
                assert_same(self, repr(ask(many)), before)
                told.clear()
                assert_same(self, repr(ask(many)), before)

    def test_what_was_asked_before_does_not_matter(self):
        before = [repr(found_deciders(many)) for many in (3, 1, 2)]
        all_deciders(3)
        is_decider(2, [None])
        step_decider(first_decider(2), 1)
        self.assertEqual([repr(found_deciders(many)) for many in (3, 1, 2)], before)


if __name__ == "__main__":
    unittest.main()
