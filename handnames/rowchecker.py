"""The checker of rows: what is let by as a stand, and how many steps are left."""

from handnames.deciders import is_mark
from handnames.errors import NoStand
from handnames.plain import is_tuple_of, is_within
from handnames.rows import row_names, working_in_row


def lets_row(many, thing):
    """True where any thing is let by as a stand of a row of so many hands, or NoStand."""
    if not is_row_stand(many, thing):
        raise NoStand("shape", 0)
    boxes, hands, most = thing
    if working_in_row(hands) > most:
        raise NoStand("most", 0)
    for box in range(1, many + 1):
        check_box(boxes[box - 1], holders_of(thing, box), box)
    for box in range(1, many + 1):
        if hands_from(hands, box) > max(0, most - box + 1):
            raise NoStand("many", box)
    return True


def is_row_stand(many, thing):
    """Whether any thing is a STAND of a row of so many hands."""
    if not is_tuple_of(thing, 3):
        return False
    boxes, hands, most = thing
    if not is_tuple_of(boxes, many) or not is_tuple_of(hands, many) or not is_within(most, 0, many):
        return False
    return all([is_mark(many, box) for box in boxes]) and all([is_hand_here(many, here) for here in hands])


def is_hand_here(many, thing):
    """Whether any thing is what a hand at a row of so many boxes may be at."""
    if thing == ("rests",):
        return True
    return is_tuple_of(thing, 2) and thing[0] in ("tries", "holds") and is_within(thing[1], 1, many)


def holders_of(stand, box):
    """The hands that hold this box, rising."""
    return [hand for hand, name in enumerate(row_names(stand)) if name == box]


def check_box(mark, holders, box):
    """NoStand where more than one holds this box, or its mark is not that of the one that does."""
    if len(holders) > 1:
        raise NoStand("twice", box)
    if mark != (holders[0] if holders else None):
        raise NoStand("box", box)


def hands_from(hands, box):
    """How many of the hands try or hold this box or a later one."""
    return len([here for here in hands if here[0] != "rests" and here[1] >= box])


def row_left(stand, hand):
    """How many steps of its own are left to the hand at most till it holds."""
    many = len(stand[1])
    here = stand[1][hand]
    if here[0] == "holds":
        return 0
    return many + 1 if here[0] == "rests" else many - here[1] + 1
