"""Nets: a decider at each cell; who leaves one goes on at the cell to the right of it or below it."""

from handnames.deciders import step_decider
from handnames.errors import NoStep
from handnames.plain import triangle, with_at


def first_net(size, many):
    """The first STAND of a net of this size and so many hands."""
    return (((None, False),) * triangle(size), (((), "out"),) * many)


def cell_of(hand_here):
    """The CELL (r, c) at which a hand is, of its (trail, word)."""
    return end_of(hand_here[0])


def end_of(trail):
    """The CELL to which a trail leads."""
    return (trail.count("down"), trail.count("right"))


def number_of(cell):
    """The number of a CELL (r, c)."""
    return triangle(sum(cell)) + cell[0]


def step_net(size, stand, hand):
    """The STAND behind the hand's next step, or NoStep."""
    boxes, hands = stand
    trail = hands[hand][0]
    cell = number_of(end_of(trail))
    mark, closed, words = step_decider(local_at(size, stand, cell), hand)
    here = hand_behind(trail, words[hand])
    if len(here[0]) >= size:
        raise NoStep(hand)
    return (with_at(boxes, cell, (mark, closed)), with_at(hands, hand, here))


def hand_behind(trail, word):
    """What a hand of this trail is at, once it came to this word at its decider."""
    if word in ("right", "down"):
        return (trail + (word,), "out")
    return (trail, word)


def local_at(size, stand, cell):
    """The LOCAL stand at the cell of this number, in a net of this size."""
    boxes, hands = stand
    mark, closed = boxes[cell]
    return (mark, closed, tuple([word_at(here, cell) for here in hands]))


def word_at(hand_here, cell):
    """The word of a hand at the cell of this number: as it is there, as it left, or out."""
    trail, word = hand_here
    for made, way in enumerate(trail):
        if number_of(end_of(trail[:made])) == cell:
            return way
    return word if number_of(end_of(trail)) == cell else "out"
