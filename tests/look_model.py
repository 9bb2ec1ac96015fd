"""Looks in rounds told once more, not in the program's own way: boxes written and read, block behind block."""

import itertools


def rounds_of(hands):
    """All ROUNDs of just these hands."""
    hands = tuple(sorted(hands))
    if not hands:
        return [()]
    return [
        (block, *rest) for size in range(1, len(hands) + 1) for block in itertools.combinations(hands, size)
        for rest in rounds_of(set(hands) - set(block))]


def rounds_among(hands):
    """All ROUNDs of one of these hands or more."""
    hands = tuple(sorted(hands))
    some = [part for size in range(1, len(hands) + 1) for part in itertools.combinations(hands, size)]
    return [one for part in some for one in rounds_of(part)]


def hands_of(one):
    return {hand for block in one for hand in block}


def all_rounds(many, count):
    """All ROUNDS of so many rounds, of hands below this number."""
    told = [()]
    for turn in range(count):
        told = [
            rounds + (one,) for rounds in told
            for one in rounds_among(hands_of(rounds[-1]) if rounds else range(many))]
    return told


def drawn_round(chance, hands):
    """Any ROUND of just these hands."""
    hands = list(hands)
    chance.shuffle(hands)
    blocks = [[hands[0]]]
    for hand in hands[1:]:
        if chance.random() < 0.5:
            blocks.append([])
        blocks[-1].append(hand)
    return tuple(tuple(sorted(block)) for block in blocks)


def drawn_rounds(chance, many, count, staying=0.7):
    """Any ROUNDS of so many rounds, some hands of each stopping there."""
    rounds = []
    hands = list(range(many))
    for turn in range(count):
        hands = [hand for hand in hands if chance.random() < staying] or [chance.choice(hands)]
        rounds.append(drawn_round(chance, hands))
    return tuple(rounds)


def views(rounds):
    """The VIEWS of the hands of the last round, by what they write and read."""
    known = {hand: (hand, ()) for hand in hands_of(rounds[0])}
    for one in rounds:
        boxes, looked = {}, {}
        for block in one:
            boxes.update({hand: known[hand] for hand in block})
            looked.update({hand: (hand, tuple(boxes[other] for other in sorted(boxes))) for hand in block})
        known = looked
    return known


def hands_within(view):
    """All hands that stand in a VIEW."""
    return {view[0]}.union(*[hands_within(part) for part in view[1]])


def type_of(greats, view, hands=None):
    """The TYPE of a VIEW: how many hands of the whole have lesser great names."""
    hands = hands_within(view) if hands is None else hands
    place = sum(greats[other] < greats[view[0]] for other in hands)
    seen = {greats[part[0]]: type_of(greats, part, hands) for part in view[1]}
    return (place, tuple(seen[great] for great in sorted(seen)))


def types(greats, rounds):
    """The TYPES of the hands of the last round."""
    return {hand: type_of(greats, view) for hand, view in views(rounds).items()}


def one_round(size, place):
    """The TYPE of one round at this place among so many hands."""
    return (place, tuple((other, ()) for other in range(size)))


def drawn_greats(chance, many):
    """Any GREATS, of unlike numbers of figures, the bounds often among them."""
    drawn = set()
    while len(drawn) < many:
        drawn.add(chance.choice([0, 10 ** 9, chance.randrange(10 ** chance.randrange(1, 10))]))
    drawn = sorted(drawn)
    chance.shuffle(drawn)
    return tuple(drawn)
