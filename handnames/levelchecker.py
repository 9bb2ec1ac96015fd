"""The checker of levels: what is let by as a stand, and how many steps are left."""

from handnames.errors import NoStand
from handnames.levels import hands_up_to
from handnames.plain import are_rising_hands, is_tuple_of, is_within


def lets_levels(many, thing):
    """True where any thing is let by as a stand of levels of so many hands, or NoStand."""
    if not is_level_stand(many, thing):
        raise NoStand("shape", 0)
    boxes, hands = thing
    for hand, here in enumerate(hands):
        if boxes[hand] != box_due(here):
            raise NoStand("box", hand)
    for level in range(1, many + 1):
        if len(hands_up_to(boxes, level)) + hands.count(("put", level)) > level:
            raise NoStand("many", level)
    for hand, here in enumerate(hands):
        if here[0] == "holds" and here[1] != hands_up_to(boxes, len(here[1])):
            raise NoStand("view", hand)
    return True


def is_level_stand(many, thing):
    """Whether any thing is a STAND of levels of so many hands."""
    if not is_tuple_of(thing, 2):
        return False
    boxes, hands = thing
    if not is_tuple_of(boxes, many) or not is_tuple_of(hands, many):
        return False
    if not all([box is None or is_within(box, 1, many) for box in boxes]):
        return False
    return all([is_hand_here(many, hand, here) for hand, here in enumerate(hands)])


def is_hand_here(many, hand, thing):
    """Whether any thing is what this one of so many hands may be at."""
    if thing == ("out",):
        return True
    if not is_tuple_of(thing, 2):
        return False
    if thing[0] == "holds":
        return are_rising_hands(many, thing[1]) and hand in thing[1]
    if thing[0] == "put":
        return is_within(thing[1], 1, many - 1)
    return thing[0] == "look" and is_within(thing[1], 1, many)


def box_due(here):
    """What the box of a hand should have, by what it is at."""
    if here[0] == "out":
        return None
    if here[0] == "look":
        return here[1]
    if here[0] == "put":
        return here[1] + 1
    return len(here[1])


def levels_left(stand, hand):
    """How many steps of its own are left to the hand at most."""
    here = stand[1][hand]
    if here[0] == "holds":
        return 0
    if here[0] == "out":
        return 2 * len(stand[1])
    return 2 * here[1] if here[0] == "put" else 2 * here[1] - 1
