"""A row of boxes that hands take, hold, and give back."""

from handnames.errors import NoStep
from handnames.plain import with_at


def first_row(many):
    """The first STAND of so many hands."""
    return ((None,) * many, (("rests",),) * many, 0)


def step_row(stand, hand):
    """The STAND behind the hand's next step, or NoStep."""
    boxes, hands, most = stand
    here = hands[hand]
    if here[0] == "rests":
        return begun(stand, hand)
    box = here[1]
    if here[0] == "holds":
        return (with_at(boxes, box - 1, None), with_at(hands, hand, ("rests",)), most)
    if boxes[box - 1] is None:
        return (with_at(boxes, box - 1, hand), with_at(hands, hand, ("holds", box)), most)
    if box == len(boxes):
        raise NoStep(hand)
    return (boxes, with_at(hands, hand, ("tries", box + 1)), most)


def begun(stand, hand):
    """The STAND behind the first step of a hand that rested."""
    boxes, hands, most = stand
    behind = with_at(hands, hand, ("tries", 1))
    return (boxes, behind, max(most, working_in_row(behind)))


def working_in_row(hands):
    """How many of the hands do not rest."""
    return len([here for here in hands if here[0] != "rests"])


def row_names(stand):
    """Hand by hand the NAME, None of one that holds none."""
    return tuple([here[1] if here[0] == "holds" else None for here in stand[1]])
