"""Levels told once more, not in the program's own way: boxes that are changed, faults by all levels."""

import itertools

from plain_things import found_from


def heres(many, hand):
    """All that a hand may be at."""
    rest = [other for other in range(many) if other != hand]
    views = [tuple(sorted((hand, *some))) for size in range(many) for some in itertools.combinations(rest, size)]
    return (
        [("out",)] + [("look", level) for level in range(1, many + 1)] + [("put", level) for level in range(1, many)]
        + [("holds", view) for view in views])


def due(here):
    """What the hand's box should have."""
    return {"out": lambda: None, "look": lambda: here[1], "put": lambda: here[1] + 1,
            "holds": lambda: len(here[1])}[here[0]]()


def boxed(hands):
    """The stand of these hands with the boxes as they should be."""
    return (tuple(due(here) for here in hands), tuple(hands))


def behind(stand, hand):
    """The stand behind the hand's step, or None."""
    boxes, hands = list(stand[0]), list(stand[1])
    word = hands[hand][0]
    if word == "holds":
        return None
    if word == "look":
        level = hands[hand][1]
        seen = [other for other in range(len(boxes)) if boxes[other] in range(1, level + 1)]
        hands[hand] = ("put", level - 1) if len(seen) < level else ("holds", tuple(sorted(seen)))
    else:
        boxes[hand] = len(boxes) if word == "out" else hands[hand][1]
        hands[hand] = ("look", boxes[hand])
    return (tuple(boxes), tuple(hands))


def fault_of(many, stand):
    """What is due of a STAND: None, or the word and the place."""
    boxes, hands = stand
    for hand in range(many):
        if repr(boxes[hand]) != repr(due(hands[hand])):
            return ("box", hand)
    for level in range(1, many + 1):
        below = {hand for hand in range(many) if boxes[hand] in range(1, level + 1)}
        going = {hand for hand in range(many) if hands[hand] == ("put", level)}
        if len(below | going) > level:
            return ("many", level)
    for hand in range(many):
        if hands[hand][0] == "holds":
            view = hands[hand][1]
            if {other for other in range(many) if boxes[other] in range(1, len(view) + 1)} != set(view):
                return ("view", hand)
    return None


def all_hands(many):
    """All that the hands may be at together."""
    return itertools.product(*[heres(many, hand) for hand in range(many)])


def all_let(many):
    """All STANDS without a fault."""
    return [stand for stand in map(boxed, all_hands(many)) if fault_of(many, stand) is None]


def drawn_boxed(chance, many):
    """Any STAND whose boxes are as they should be."""
    return boxed([chance.choice(heres(many, hand)) for hand in range(many)])


def drawn_let(chance, many):
    """Any STAND without a fault, come to or not: the levels drawn first, views as they must be."""
    while True:
        boxes = [chance.choice([None, *range(1, many + 1)]) for hand in range(many)]
        hands = []
        for level in boxes:
            words = ["look", "holds"] + ["put"] * (level is not None and level > 1)
            word = "out" if level is None else chance.choice(words)
            view = tuple(hand for hand in range(many) if level and boxes[hand] and boxes[hand] <= level)
            parts = {"out": (), "look": (level,), "put": (level and level - 1,), "holds": (view,)}
            hands.append((word, *parts[word]))
        stand = boxed(hands)
        if stand[0] == tuple(boxes) and fault_of(many, stand) is None:
            return stand


def found_stands(many):
    """All stands to which some weaving leads from the first one."""
    return found_from(boxed([("out",)] * many), many, behind)
