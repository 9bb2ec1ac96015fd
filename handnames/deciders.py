"""Deciders: a mark and a shutter that hands share; of those that come at most one holds it."""

from handnames.errors import NoStep
from handnames.plain import is_tuple_of, is_whole, with_at

WORDS = ("out", "ask", "close", "look", "holds", "right", "down")
ENDED = ("holds", "right", "down")


def first_decider(many):
    """The first STAND of so many hands."""
    return (None, False, ("out",) * many)


def is_decider(many, thing):
    """Whether any thing is a STAND of so many hands, come to or not."""
    if not is_tuple_of(thing, 3):
        return False
    mark, closed, words = thing
    return is_mark(many, mark) and isinstance(closed, bool) and are_words_of(many, words)


def is_mark(many, thing):
    """Whether any thing is nobody's mark or that of one of so many hands."""
    return thing is None or (is_whole(thing) and 0 <= thing < many)


def are_words_of(many, thing):
    """Whether any thing tells one of the WORDS for each of so many hands."""
    return is_tuple_of(thing, many) and all([word in WORDS for word in thing])


def step_decider(stand, hand):
    """The STAND behind the hand's next step, or NoStep."""
    mark, closed, words = stand
    word = words[hand]
    if word in ENDED:
        raise NoStep(hand)
    if word == "out":
        return (hand, closed, with_at(words, hand, "ask"))
    if word == "ask":
        return (mark, closed, with_at(words, hand, "right" if closed else "close"))
    if word == "close":
        return (mark, True, with_at(words, hand, "look"))
    return (mark, closed, with_at(words, hand, "holds" if mark == hand else "down"))


def moving_hands(stand):
    """The hands that make a step in the STAND, rising."""
    return [hand for hand, word in enumerate(stand[2]) if word not in ENDED]


def all_deciders(many):
    """All STANDS of so many hands, come to or not, in the told order."""
    marks = [None] + list(range(many))
    rows = all_words(many)
    return [(mark, closed, words) for mark in marks for closed in (False, True) for words in rows]


def all_words(many):
    """All tuples of so many of the WORDS, the first place slowest."""
    rows = [()]
    for place in range(many):
        rows = [row + (word,) for row in rows for word in WORDS]
    return rows


def found_deciders(many):
    """The STANDS to which some weaving leads from the first one, in the told order."""
    found = stands_behind(first_decider(many))
    return [stand for stand in all_deciders(many) if stand in found]


def stands_behind(start):
    """A dict whose keys are the STANDS to which some weaving leads from this one, itself among them."""
    found = {start: True}
    waiting = [start]
    while waiting:
        stand = waiting.pop()
        for hand in moving_hands(stand):
            behind = step_decider(stand, hand)
            if behind not in found:
                found[behind] = True
                waiting.append(behind)
    return found
