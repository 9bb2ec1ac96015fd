"""A row told once more, not in the program's own way: boxes that are changed, faults box by box."""

import itertools

from plain_things import found_from


def heres(many):
    """All that a hand may be at."""
    return [("rests",)] + [(word, box) for word in ("tries", "holds") for box in range(1, many + 1)]


def working(hands):
    return sum(here != ("rests",) for here in hands)


def boxed(hands, most):
    """The stand of these hands with the boxes as they should be (of two that hold one box, of the last of them)."""
    boxes = [None] * len(hands)
    for hand, here in enumerate(hands):
        if here[0] == "holds":
            boxes[here[1] - 1] = hand
    return (tuple(boxes), tuple(hands), most)


def behind(stand, hand):
    """The stand behind the hand's step, or None."""
    boxes, hands, most = list(stand[0]), list(stand[1]), stand[2]
    word, *rest = hands[hand]
    if word == "rests":
        hands[hand] = ("tries", 1)
        if working(hands) > most:
            most = working(hands)
    elif word == "holds":
        boxes[rest[0] - 1] = None
        hands[hand] = ("rests",)
    elif boxes[rest[0] - 1] is None:
        boxes[rest[0] - 1] = hand
        hands[hand] = ("holds", rest[0])
    elif rest[0] < len(boxes):
        hands[hand] = ("tries", rest[0] + 1)
    else:
        return None
    return (tuple(boxes), tuple(hands), most)


def fault_of(many, stand):
    """What is due of a STAND: None, or the word and the place."""
    boxes, hands, most = stand
    if working(hands) > most:
        return ("most", 0)
    for box in range(1, many + 1):
        holders = [hand for hand in range(many) if hands[hand] == ("holds", box)]
        if len(holders) >= 2:
            return ("twice", box)
        if [boxes[box - 1]] != (holders or [None]):
            return ("box", box)
    for box in range(1, many + 1):
        there = [here for here in hands if here != ("rests",) and here[1] in range(box, many + 1)]
        room = most - box + 1
        if there and (room < 0 or len(there) > room):
            return ("many", box)
    return None


def all_stands(many):
    """All STANDS, boxes as they should be or not."""
    boxes = itertools.product([None, *range(many)], repeat=many)
    return itertools.product(boxes, itertools.product(heres(many), repeat=many), range(many + 1))


def all_let(many):
    """All STANDS without a fault."""
    stands = [boxed(hands, most) for hands in itertools.product(heres(many), repeat=many) for most in range(many + 1)]
    return [stand for stand in stands if fault_of(many, stand) is None]


def drawn_boxed(chance, many):
    """Any STAND whose boxes are as they should be, no two hands holding one of them."""
    hands = []
    for hand in range(many):
        hands.append(chance.choice([here for here in heres(many) if here[0] != "holds" or here not in hands]))
    return boxed(hands, chance.randrange(many + 1))


def drawn_let(chance, many):
    """Any STAND without a fault, come to or not."""
    while True:
        hands = [("rests",)] * many
        for hand in chance.sample(range(many), chance.randrange(many + 1)):
            far = chance.randrange(1, many + 1)
            hands[hand] = chance.choice([here for here in heres(far) if here[0] != "holds" or here not in hands])
        stand = boxed(hands, chance.randrange(many + 1))
        if fault_of(many, stand) is None:
            return stand


def found_stands(many):
    """All stands to which some weaving leads from the first one."""
    return found_from(boxed([("rests",)] * many, 0), many, behind)
