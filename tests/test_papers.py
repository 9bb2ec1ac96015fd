"""handnames.papers: which papers are let by, what they show, and the told one."""

import random
import unittest

from handnames.deciders import all_deciders, found_deciders
from handnames.errors import NoPaper
from handnames.papers import lets_paper, shows, told_paper
from handnames.sentences import is_sentence, is_so
from plain_things import ODD, WORDS, assert_refused, assert_same, assert_told, every_stand

FREE = ("free",)
CLOSED = ("closed",)
ALWAYS = ("plain", ("either", FREE, ("not", FREE)))
NEVER = ("plain", ("both", FREE, ("not", FREE)))

# Each of these carries itself alone, for any number of hands.
OPEN_KEEPS_OUT = ("each", ("either", CLOSED, ("at", 0, ("out", "ask", "close"))))
FREE_IS_OUT = ("each", ("either", ("not", FREE), ("at", 0, ("out",))))
CARRIED = [OPEN_KEEPS_OUT, FREE_IS_OUT, ALWAYS, ("each", ("at", 0, WORDS)), ("some", ("at", 0, WORDS[::-1]))]

NO_TWO_HOLD = ("pairs", ("not", ("both", ("at", 0, ("holds",)), ("at", 1, ("holds",)))))
SOME_NOT_RIGHT = ("some", ("not", ("at", 0, ("right",))))
SOME_NOT_DOWN = ("some", ("not", ("at", 0, ("down",))))
STAYS_OPEN = ("plain", ("not", CLOSED))
STAYS_FREE = ("plain", FREE)
NONE_LOOKS = ("each", ("not", ("at", 0, ("look",))))
NONE_HOLDS = ("each", ("not", ("at", 0, ("holds",))))
ALL_OUT = ("each", ("at", 0, ("out",)))
# So in the first stand, but led out of by some step, for any number of hands.
LED_OUT = [SOME_NOT_RIGHT, SOME_NOT_DOWN, STAYS_OPEN, STAYS_FREE, NONE_LOOKS, NONE_HOLDS, ALL_OUT]
# Not so in the first stand.
NOT_FIRST = [NEVER, ("plain", CLOSED), ("some", ("mark", 0)), ("each", ("at", 0, ("ask", "look"))),
             ("some", ("not", ("at", 0, ("out",)))), ("plain", ("not", FREE))]
NO_SENTENCE = ODD + [0, 1, (), ["each", FREE], ("each", ["free"]), ("each", ("mark", 1)), ("plain", ("mark", 0)),
                     ("each", ("at", 0, ["out"])), ("each", ("mark", False)), ("each", FREE, FREE), ("every", FREE)]

# The words of the checker of nets, a SENTENCE each.
KEPT = [
    OPEN_KEEPS_OUT,
    ("some", ("either", ("not", CLOSED), ("at", 0, ("look", "holds", "down")))),
    FREE_IS_OUT,
    ("each", ("either", ("not", ("mark", 0)), ("at", 0, ("ask", "close", "look", "holds", "right")))),
    ("pairs", ("either", ("not", ("at", 0, ("holds",))), ("either", ("not", ("mark", 1)),
                                                           ("at", 1, ("out", "ask", "holds", "right", "down"))))),
    NO_TWO_HOLD,
]


def behind(stand, hand):
    """The stand behind a step, None where there is none: told once more."""
    mark, closed, words = stand
    word = words[hand]
    if word in ("holds", "right", "down"):
        return None
    if word == "out":
        mark, word = hand, "ask"
    elif word == "ask":
        word = "right" if closed else "close"
    elif word == "close":
        closed, word = True, "look"
    else:
        word = "holds" if mark == hand and mark is not None else "down"
    return (mark, closed, words[:hand] + (word,) + words[hand + 1:])


def fault_of(many, paper):
    """What is due of a PAPER, sentence by sentence: None, or the word and the place."""
    for at, sentence in enumerate(paper):
        if not is_so((None, False, ("out",) * many), sentence):
            return ("first", at)
    here = [stand for stand in every_stand(many) if all(is_so(stand, sentence) for sentence in paper)]
    ahead = {behind(stand, hand) for stand in here for hand in range(many)} - {None}
    for at, sentence in enumerate(paper):
        if not all(is_so(stand, sentence) for stand in ahead):
            return ("step", at)
    return None


class Papers(unittest.TestCase):
    def lets(self, thing, many_of=(1, 2, 3)):
        for many in many_of:
            assert_told(self, True, lets_paper, many, thing)

    def refuses(self, thing, word, at, many_of=(1, 2, 3)):
        for many in many_of:
            assert_refused(self, NoPaper(word, at), lets_paper, many, thing)


class LetBy(Papers):
    def test_the_empty_paper(self):
        self.lets(())

    def test_one_sentence_that_carries_itself(self):
        for sentence in CARRIED:
            self.lets((sentence,))

    def test_several_in_any_order(self):
        self.lets(tuple(CARRIED))
        self.lets(tuple(CARRIED[::-1]))
        self.lets(tuple(KEPT))
        self.lets(tuple(KEPT[::-1]))
        self.lets(tuple(KEPT[3:] + KEPT[:3]))

    def test_of_one_hand_alone_pairs_are_so(self):
        self.lets((NO_TWO_HOLD,), (1,))
        self.lets((("pairs", ("both", FREE, ("not", FREE))),), (1,))
        self.refuses((NO_TWO_HOLD,), "step", 0, (2, 3))
        self.refuses((("pairs", ("both", FREE, ("not", FREE))),), "first", 0, (2, 3))

    def test_one_sentence_twice(self):
        self.lets((FREE_IS_OUT, FREE_IS_OUT))
        self.lets((OPEN_KEEPS_OUT, FREE_IS_OUT, OPEN_KEEPS_OUT))
        self.refuses((STAYS_OPEN, STAYS_OPEN), "step", 0)
        self.refuses((ALWAYS, NEVER, NEVER), "first", 1)

    def test_up_to_twelve(self):
        self.lets((ALWAYS,) * 12)
        self.lets((FREE_IS_OUT, OPEN_KEEPS_OUT) * 6)


class Shapes(Papers):
    def test_no_tuple(self):
        for odd in ODD + [0, 1, [], [FREE_IS_OUT], list(KEPT), "paper"]:
            if isinstance(odd, tuple) and len(odd) <= 12:
                continue
            self.refuses(odd, "shape", 0)

    def test_thirteen(self):
        self.refuses((ALWAYS,) * 13, "shape", 0)
        self.refuses((ALWAYS,) * 40, "shape", 0)
        self.refuses((None,) * 13, "shape", 0)

    def test_thirteen_and_one_that_is_none(self):
        for at in range(1, 13):
            self.refuses((ALWAYS,) * at + (None,) + (ALWAYS,) * (12 - at), "shape", 0)

    def test_one_that_is_no_sentence(self):
        for odd in NO_SENTENCE:
            self.assertIs(is_sentence(odd), False)
            self.refuses((odd,), "shape", 0, (1, 2))
            self.refuses((FREE_IS_OUT, odd), "shape", 1, (2,))
            self.refuses((FREE_IS_OUT, FREE_IS_OUT, odd, FREE_IS_OUT), "shape", 2, (2,))

    def test_each_place(self):
        for at in range(12):
            self.refuses((ALWAYS,) * at + ([],) + (ALWAYS,) * (11 - at), "shape", at)

    def test_the_least_place(self):
        for at in range(11):
            for later in range(at + 1, 12):
                thing = [ALWAYS] * 12
                thing[at], thing[later] = ("each",), None
                self.refuses(tuple(thing), "shape", at, (2,))

    def test_a_sentence_or_a_paper_within(self):
        self.refuses(FREE_IS_OUT, "shape", 0)
        self.refuses((tuple(KEPT),), "shape", 0)
        self.refuses((FREE_IS_OUT, (FREE_IS_OUT,)), "shape", 1)

    def test_a_list_within(self):
        self.refuses((list(FREE_IS_OUT),), "shape", 0)
        self.refuses((FREE_IS_OUT, ("each", list(FREE_IS_OUT[1]))), "shape", 1)
        self.refuses((FREE_IS_OUT, FREE_IS_OUT, ("some", ("at", 0, ["out"]))), "shape", 2)
        self.refuses((FREE_IS_OUT, ("each", ("not", ["free"]))), "shape", 1)

    def test_ahead_of_what_is_not_so_at_first(self):
        for sentence in NOT_FIRST:
            self.refuses((sentence, None), "shape", 1)
            self.refuses((sentence, ALWAYS, sentence, ["each", FREE], None), "shape", 3)

    def test_ahead_of_what_is_led_out_of(self):
        self.refuses((STAYS_OPEN, ALWAYS, ("each", ("mark", 1))), "shape", 2)


class First(Papers):
    def test_alone(self):
        for sentence in NOT_FIRST:
            self.refuses((sentence,), "first", 0)

    def test_the_least_place(self):
        for at in range(12):
            self.refuses((ALWAYS,) * at + (NEVER,) * (12 - at), "first", at)

    def test_ahead_of_what_is_led_out_of(self):
        for sentence in NOT_FIRST:
            self.refuses((STAYS_OPEN, sentence), "first", 1)
            self.refuses((SOME_NOT_DOWN, STAYS_OPEN, ALWAYS, sentence, NEVER), "first", 3)


class Steps(Papers):
    def test_alone(self):
        for sentence in LED_OUT:
            self.refuses((sentence,), "step", 0)

    def test_the_place_among_others(self):
        for at in range(12):
            self.refuses((ALWAYS,) * at + (STAYS_OPEN,) + (ALWAYS,) * (11 - at), "step", at, (1, 2))

    def test_the_least_place_of_all_steps(self):
        # The step that leads out of the later one stands ahead in the list of all stands.
        self.refuses((NO_TWO_HOLD, STAYS_OPEN), "step", 0, (2, 3))
        self.refuses((ALWAYS, NO_TWO_HOLD, STAYS_OPEN), "step", 1, (2, 3))
        self.refuses((STAYS_OPEN, NO_TWO_HOLD), "step", 0, (2, 3))
        self.refuses((NO_TWO_HOLD, STAYS_OPEN), "step", 1, (1,))
        self.refuses((NONE_HOLDS, STAYS_FREE), "step", 1)
        self.refuses((ALWAYS, NONE_HOLDS, STAYS_OPEN), "step", 1)

    def test_from_stands_that_no_weaving_comes_to_as_well(self):
        for many in (2, 3):
            self.assertTrue(all(is_so(stand, NO_TWO_HOLD) for stand in found_deciders(many)))
        self.refuses((NO_TWO_HOLD,), "step", 0, (2, 3))

    def test_one_of_the_kept_left_out(self):
        # Without the first, a hand that asks may find it open though another one holds, its mark standing.
        self.refuses(tuple(KEPT[1:]), "step", 3, (2, 3))
        self.refuses(tuple(KEPT[:4] + KEPT[5:]), "step", 4, (2, 3))
        self.lets(tuple(KEPT[1:]), (1,))
        for gone in (1, 2, 3, 5):
            self.lets(tuple(KEPT[:gone] + KEPT[gone + 1:]))


class Drawn(Papers):
    def drawn(self, chance):
        pool = CARRIED * 2 + KEPT * 3 + LED_OUT + NOT_FIRST[:2]
        if chance.random() < 0.4:
            pool = CARRIED + KEPT * 2
        paper = [chance.choice(pool) for place in range(chance.randrange(0, 7))]
        if chance.random() < 0.3:
            paper += chance.sample(KEPT, 6)
        return tuple(paper[:12])

    def test_against_a_second_telling(self):
        chance = random.Random(16)
        found = {many: found_deciders(many) for many in (1, 2, 3)}
        seen = {}
        for many, turns in ((1, 300), (2, 250), (3, 40)):
            for turn in range(turns):
                paper = self.drawn(chance)
                expected = fault_of(many, paper)
                seen[expected] = seen.get(expected, 0) + 1
                if expected is not None:
                    self.refuses(paper, *expected, (many,))
                    continue
                self.lets(paper, (many,))
                self.holds_in_all(paper, found[many])
        self.assertGreater(seen[None], 60)
        self.assertGreater(len(seen), 8)

    def holds_in_all(self, paper, stands):
        for stand in stands:
            for sentence in paper:
                self.assertIs(is_so(stand, sentence), True, (stand, sentence))

    def test_what_is_let_by_holds_in_each_stand_of_each_weaving(self):
        for many in (1, 2, 3):
            for paper in [tuple(CARRIED), tuple(KEPT), told_paper(), ()]:
                self.lets(paper, (many,))
                self.holds_in_all(paper, found_deciders(many))


class Shown(Papers):
    def shown(self, paper, sentence, many_of=(1, 2, 3)):
        for many in many_of:
            assert_told(self, True, shows, many, paper, sentence)

    def not_shown(self, paper, sentence, word, at, many_of=(1, 2, 3)):
        for many in many_of:
            assert_refused(self, NoPaper(word, at), shows, many, paper, sentence)

    def test_by_the_empty_paper(self):
        self.shown((), ALWAYS)
        self.shown((), ("each", ("at", 0, WORDS)))
        self.shown((), NO_TWO_HOLD, (1,))
        self.not_shown((), NO_TWO_HOLD, "saying", 0, (2, 3))
        for sentence in LED_OUT + NOT_FIRST + [OPEN_KEEPS_OUT, FREE_IS_OUT]:
            self.not_shown((), sentence, "saying", 0)

    def test_a_sentence_of_the_paper_itself(self):
        for sentence in KEPT:
            self.shown(tuple(KEPT), sentence)
        for sentence in CARRIED:
            self.shown((sentence,), sentence)

    def test_what_follows(self):
        self.shown((FREE_IS_OUT,), ("pairs", ("either", ("not", FREE), ("at", 1, ("out",)))))
        early = ("at", 0, ("out", "ask", "close"))
        self.shown((FREE_IS_OUT, OPEN_KEEPS_OUT), ("each", ("either", early, ("both", CLOSED, ("not", FREE)))))
        self.not_shown((FREE_IS_OUT,), OPEN_KEEPS_OUT, "saying", 0)
        self.not_shown((OPEN_KEEPS_OUT,), FREE_IS_OUT, "saying", 0)
        self.not_shown((FREE_IS_OUT, OPEN_KEEPS_OUT), SOME_NOT_RIGHT, "saying", 0)

    def test_so_in_each_stand_that_is_come_to_is_not_enough(self):
        for many in (1, 2, 3):
            self.assertTrue(all(is_so(stand, SOME_NOT_DOWN) for stand in found_deciders(many)))
        self.not_shown((FREE_IS_OUT,), SOME_NOT_DOWN, "saying", 0)

    def test_not_shown_by_one_stand_alone(self):
        # So in all stands but those in which each hand holds: 4 of 28, 6 of 294, 8 of 2744.
        for many, count in ((1, 4), (2, 6), (3, 8)):
            some_not = ("some", ("not", ("at", 0, ("holds",))))
            self.assertEqual([is_so(stand, some_not) for stand in all_deciders(many)].count(False), count)
            self.not_shown((), some_not, "saying", 0, (many,))

    def test_the_refusals_of_the_paper_ahead(self):
        for sentence in (ALWAYS, NEVER, NO_TWO_HOLD):
            self.not_shown([], sentence, "shape", 0)
            self.not_shown(None, sentence, "shape", 0)
            self.not_shown((ALWAYS,) * 13, sentence, "shape", 0)
            self.not_shown((ALWAYS, None), sentence, "shape", 1)
            self.not_shown((ALWAYS, list(ALWAYS)), sentence, "shape", 1)
            self.not_shown((ALWAYS, ALWAYS, NEVER), sentence, "first", 2)
            self.not_shown((ALWAYS, STAYS_OPEN), sentence, "step", 1)

    def test_odd_things_as_papers(self):
        for odd in ODD:
            self.not_shown(odd, ALWAYS, "shape", 0, (2,))

    def test_drawn(self):
        chance = random.Random(17)
        sentences = CARRIED + KEPT + LED_OUT + NOT_FIRST
        seen = {True: 0, False: 0}
        for turn in range(150):
            many = chance.choice((1, 2, 2, 2))
            paper = tuple(KEPT) if turn % 3 else tuple(chance.sample(CARRIED, chance.randrange(4)))
            sentence = chance.choice(sentences)
            here = [stand for stand in every_stand(many) if all(is_so(stand, one) for one in paper)]
            expected = all(is_so(stand, sentence) for stand in here)
            seen[expected] += 1
            if expected:
                self.shown(paper, sentence, (many,))
            else:
                self.not_shown(paper, sentence, "saying", 0, (many,))
        self.assertGreater(min(seen.values()), 20)


class Told(Papers):
    def test_it_is_a_paper(self):
        paper = told_paper()
        self.assertIs(type(paper), tuple)
        self.assertLessEqual(len(paper), 12)
        for sentence in paper:
            self.assertIs(is_sentence(sentence), True, sentence)

    def test_it_is_let_by(self):
        self.lets(told_paper())

    def test_it_shows_what_is_asked(self):
        for many in (1, 2, 3):
            for sentence in (NO_TWO_HOLD, SOME_NOT_RIGHT, SOME_NOT_DOWN):
                assert_told(self, True, shows, many, told_paper(), sentence)

    def test_what_was_asked_before_does_not_matter(self):
        before = told_paper()
        assert_refused(self, NoPaper("shape", 0), lets_paper, 2, [before])
        assert_same(self, told_paper(), before)


if __name__ == "__main__":
    unittest.main()
