"""Levels: a box for each hand, looks at all boxes at once, a lower level where too few are seen."""

from handnames.errors import NoStep
from handnames.plain import triangle, with_at


def first_levels(many):
    """The first STAND of so many hands."""
    return ((None,) * many, (("out",),) * many)


def step_levels(stand, hand):
    """The STAND behind the hand's next step, or NoStep."""
    boxes, hands = stand
    here = hands[hand]
    if here[0] == "holds":
        raise NoStep(hand)
    if here[0] == "look":
        return (boxes, with_at(hands, hand, behind_look(boxes, here[1])))
    level = len(boxes) if here[0] == "out" else here[1]
    return (with_at(boxes, hand, level), with_at(hands, hand, ("look", level)))


def behind_look(boxes, level):
    """What a hand of this level is at, once it looked at the boxes."""
    view = hands_up_to(boxes, level)
    if level <= len(view):
        return ("holds", view)
    return ("put", level - 1)


def hands_up_to(boxes, level):
    """The hands whose boxes have at most this level, rising."""
    return tuple([hand for hand, box in enumerate(boxes) if box is not None and box <= level])


def level_names(greats, stand):
    """Hand by hand the NAME by these GREATS, None of one that holds none."""
    return tuple([level_name(greats, hand, here) for hand, here in enumerate(stand[1])])


def level_name(greats, hand, here):
    """The NAME that the hand holds, or None."""
    if here[0] != "holds":
        return None
    view = here[1]
    below = [other for other in view if greats[other] < greats[hand]]
    return triangle(len(view) - 1) + len(below) + 1
