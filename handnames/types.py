"""TYPES: what is left of views by the order of great names alone; and the names that ways give by them."""

from handnames.errors import NoType
from handnames.looks import hands_of_round, view_of


def type_of(greats, view):
    """What is left of the VIEW once each hand is told by the place of its great name among all in it."""
    rising = sorted(set([greats[hand] for hand in hands_in(view)]))
    return placed(greats, rising, view)


def hands_in(view):
    """All hands that stand in the VIEW, perhaps more than once."""
    hand, seen = view
    return [hand] + [other for part in seen for other in hands_in(part)]


def placed(greats, rising, view):
    """The VIEW with the place of each hand's great name among the rising ones in place of the hand."""
    hand, seen = view
    parts = [placed(greats, rising, part) for part in seen]
    return (rising.index(greats[hand]), tuple(sorted(parts, key=lambda part: part[0])))


def one_round_types(many):
    """The TYPES of one round of up to so many hands, by the number of hands seen, then by the place."""
    return [(place, seen_by_place(seen)) for seen in range(1, many + 1) for place in range(seen)]


def seen_by_place(many):
    """So many hands, told by their places, as they are seen in the first round."""
    return tuple([(place, ()) for place in range(many)])


def type_at(greats, rounds, hand):
    """What type_of tells of the VIEW of a hand of the last of the ROUNDS."""
    return type_of(greats, view_of(rounds, hand))


def name_by(way, greats, rounds, hand):
    """The NAME that the WAY has for a hand of the last of the ROUNDS, or NoType."""
    type_here = type_at(greats, rounds, hand)
    if type_here not in way:
        raise NoType(type_here)
    return way[type_here]


def names_by(way, greats, rounds):
    """The NAME that the WAY has for each hand of the last of the ROUNDS, or NoType of the first that has none."""
    return {hand: name_by(way, greats, rounds, hand) for hand in hands_of_round(rounds[-1])}


def clash(way, greats, rounds):
    """The first two hands of the last of the ROUNDS that have one NAME by the WAY, None where none have, or NoType."""
    named = names_by(way, greats, rounds)
    hands = list(named)
    for at, one in enumerate(hands):
        for other in hands[at + 1:]:
            if named[one] == named[other]:
                return (one, other)
    return None
