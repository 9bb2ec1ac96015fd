"""Machines of all four kinds, asked alike: steps, weavings, names, bounds, and what is let by."""

from handnames.deciders import first_decider, is_decider, step_decider
from handnames.errors import NoStand, NoStep
from handnames.levelchecker import lets_levels
from handnames.levels import first_levels, level_names, step_levels
from handnames.netchecker import check_local, lets_net, net_names
from handnames.nets import first_net, step_net
from handnames.plain import is_tuple_of, is_within, triangle
from handnames.rowchecker import lets_row
from handnames.rows import first_row, row_names, step_row, working_in_row

MOST_HANDS = 6
MOST_SIZE = 5
MOST_GREAT = 10 ** 9


def is_machine(thing):
    """Whether any thing is a MACHINE."""
    if is_tuple_of(thing, 3):
        return thing[0] == "net" and is_within(thing[1], 1, MOST_SIZE) and is_within(thing[2], 1, thing[1])
    if not is_tuple_of(thing, 2):
        return False
    if thing[0] == "levels":
        return are_greats(thing[1])
    return thing[0] in ("decider", "row") and is_within(thing[1], 1, MOST_HANDS)


def are_greats(thing):
    """Whether any thing is GREATS."""
    if not isinstance(thing, tuple) or not 1 <= len(thing) <= MOST_HANDS:
        return False
    return all([is_within(great, 0, MOST_GREAT) for great in thing]) and len(set(thing)) == len(thing)


def hands_of(machine):
    """How many hands share the MACHINE."""
    return len(machine[1]) if machine[0] == "levels" else machine[-1]


def first(machine):
    """The first STAND."""
    many = hands_of(machine)
    if machine[0] == "decider":
        return first_decider(many)
    if machine[0] == "net":
        return first_net(machine[1], many)
    return first_levels(many) if machine[0] == "levels" else first_row(many)


def moving(machine, stand):
    """The hands that make a step in the STAND, rising."""
    return [hand for hand in range(hands_of(machine)) if stepped_or_none(machine, stand, hand) is not None]


def stepped(machine, stand, hand):
    """The STAND behind the hand's next step, or NoStep."""
    if machine[0] == "decider":
        return step_decider(stand, hand)
    if machine[0] == "net":
        return step_net(machine[1], stand, hand)
    return step_levels(stand, hand) if machine[0] == "levels" else step_row(stand, hand)


def stepped_or_none(machine, stand, hand):
    """The STAND behind the hand's next step, None where it makes none."""
    try:
        return stepped(machine, stand, hand)
    except NoStep:
        return None


def woven(machine, stand, weaving):
    """The STAND behind the WEAVING: a hand that makes no step any more is passed over."""
    for hand in weaving:
        behind = stepped_or_none(machine, stand, hand)
        if behind is not None:
            stand = behind
    return stand


def names(machine, stand):
    """Hand by hand the NAME, None of one that holds none."""
    if machine[0] == "decider":
        return tuple([1 if word == "holds" else None for word in stand[2]])
    if machine[0] == "net":
        return net_names(machine[1], stand)
    return level_names(machine[1], stand) if machine[0] == "levels" else row_names(stand)


def at_work(machine, stand):
    """How many hands are at work in the STAND."""
    if machine[0] == "row":
        return working_in_row(stand[1])
    hands = stand[2] if machine[0] == "decider" else stand[1]
    return len(hands) - hands.count(first_hand(machine))


def first_hand(machine):
    """What each hand is at in the first STAND, of a MACHINE whose hands never come back to it."""
    if machine[0] == "decider":
        return "out"
    return ((), "out") if machine[0] == "net" else ("out",)


def bound(machine, many):
    """The BOUND for so many hands at work (of a row: at once, at most)."""
    return triangle(many) if machine[0] in ("net", "levels") else many


def lets_stand(machine, thing):
    """True where any thing is let by as a stand of the MACHINE, or NoStand."""
    many = hands_of(machine)
    if machine[0] == "net":
        return lets_net(machine[1], many, thing)
    if machine[0] == "levels":
        return lets_levels(many, thing)
    if machine[0] == "row":
        return lets_row(many, thing)
    if not is_decider(many, thing):
        raise NoStand("shape", 0)
    check_local(thing, 0)
    return True
