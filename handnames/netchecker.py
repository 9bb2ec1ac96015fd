"""The checker of nets: what is let by as a stand, which names are held there, how many steps are left."""

from handnames.deciders import is_mark
from handnames.errors import NoStand
from handnames.nets import cell_of, local_at, number_of
from handnames.plain import is_tuple_of, triangle

# How many steps a hand made at its cell, by its word there.
MADE = {"out": 0, "ask": 1, "close": 2, "look": 3}
WORDS_HERE = ("out", "ask", "close", "look", "holds")


def lets_net(size, many, thing):
    """True where any thing is let by as a stand of a net of this size and so many hands, or NoStand."""
    if not is_net_stand(size, many, thing):
        raise NoStand("shape", 0)
    for cell in range(triangle(size)):
        check_local(local_at(size, thing, cell), cell)
    return True


def is_net_stand(size, many, thing):
    """Whether any thing is a STAND of a net of this size and so many hands."""
    if not is_tuple_of(thing, 2):
        return False
    boxes, hands = thing
    if not is_tuple_of(boxes, triangle(size)) or not is_tuple_of(hands, many):
        return False
    return all([is_box(many, box) for box in boxes]) and all([is_hand_here(size, here) for here in hands])


def is_box(many, thing):
    """Whether any thing is the mark and the shutter of a cell, of so many hands."""
    return is_tuple_of(thing, 2) and is_mark(many, thing[0]) and isinstance(thing[1], bool)


def is_hand_here(size, thing):
    """Whether any thing is the trail of a hand within a net of this size, and its word there."""
    return is_tuple_of(thing, 2) and is_trail(size, thing[0]) and thing[1] in WORDS_HERE


def is_trail(size, thing):
    """Whether any thing is a trail within a net of this size."""
    return isinstance(thing, tuple) and len(thing) < size and all([way in ("right", "down") for way in thing])


def check_local(local, at):
    """NoStand with the first fault of a LOCAL stand, at this number."""
    mark, closed, words = local
    if not closed and some_at(words, ("look", "holds", "right", "down")):
        raise NoStand("open", at)
    if closed and not some_at(words, ("look", "holds", "down")):
        raise NoStand("closed", at)
    if mark is None and words.count("out") < len(words):
        raise NoStand("free", at)
    if mark is not None:
        check_marked(words[mark], words, at)
    if words.count("holds") > 1:
        raise NoStand("twice", at)


def check_marked(word, words, at):
    """NoStand where this word of the mark's hand does not go with the mark, or not with the others' words."""
    if word in ("out", "down"):
        raise NoStand("mark", at)
    # A hand at close or look does not hold: it is another one that does.
    if word in ("close", "look") and "holds" in words:
        raise NoStand("late", at)


def some_at(words, wanted):
    """Whether some hand is at one of the wanted words."""
    return any([word in wanted for word in words])


def net_names(size, stand):
    """Hand by hand the NAME, None of one that holds none."""
    return tuple([net_name(here) for here in stand[1]])


def net_name(hand_here):
    """The NAME that a hand holds, or None."""
    return number_of(cell_of(hand_here)) + 1 if hand_here[1] == "holds" else None


def net_left(size, stand, hand):
    """How many steps of its own are left to the hand at most."""
    hands = stand[1]
    trail, word = hands[hand]
    if word == "holds":
        return 0
    return 4 * (len(hands) - len(trail)) - MADE[word]
