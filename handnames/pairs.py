"""Papers of pairs: for each two TYPES of one round two hands that have them at once, so that no name serves both."""

from handnames.errors import NoPaper
from handnames.looks import are_rounds, hands_of_round
from handnames.machines import are_greats
from handnames.plain import is_one_of, is_tuple_of
from handnames.types import name_by, one_round_types, type_at

MOST_ENTRIES = 100


def lets_pairs(many, thing):
    """True where any thing is let by as a paper of pairs for so many hands, or NoPaper."""
    check_entries(many, thing)
    shown = {types_of(entry): True for entry in thing}
    for number, (one, other) in enumerate(pairs_among(one_round_types(many))):
        if (one, other) not in shown and (other, one) not in shown:
            raise NoPaper("pair", number)
    return True


def check_entries(many, thing):
    """NoPaper where any thing is no tuple of entries, or of too many."""
    if not isinstance(thing, tuple) or len(thing) > MOST_ENTRIES:
        raise NoPaper("shape", 0)
    for at, part in enumerate(thing):
        if not is_entry(many, part):
            raise NoPaper("entry", at)


def is_entry(many, thing):
    """Whether any thing is an entry of a paper of pairs for so many hands."""
    if not is_tuple_of(thing, 4):
        return False
    greats, rounds, one, other = thing
    if not are_greats(greats) or len(greats) > many:
        return False
    if not are_rounds(len(greats), rounds) or len(rounds) > 1:
        return False
    hands = hands_of_round(rounds[0])
    return is_one_of(one, hands) and is_one_of(other, hands) and one != other


def types_of(entry):
    """The TYPES of the two hands of an entry."""
    greats, rounds, one, other = entry
    return (type_at(greats, rounds, one), type_at(greats, rounds, other))


def pairs_among(listed):
    """All pairs of these TYPES, the one ahead of the other in the list, by the one, then by the other."""
    return [(one, other) for at, one in enumerate(listed) for other in listed[at + 1:]]


def pair_clash(way, paper):
    """The number of the first entry whose two hands have one NAME by the WAY, None where there is none."""
    for at, (greats, rounds, one, other) in enumerate(paper):
        if name_by(way, greats, rounds, one) == name_by(way, greats, rounds, other):
            return at
    return None


def told_pairs(many):
    """A paper of pairs for so many hands: one entry for each pair, in their order."""
    return tuple([entry_for(one, other) for one, other in pairs_among(one_round_types(many))])


def entry_for(one, other):
    """An entry whose two hands have these TYPES of one round, the other one of as many hands or more."""
    place, seen = one
    other_place, all_seen = other
    # Each hand's great name is its own number, so that the hands themselves are the places among all.
    hands = tuple(range(len(all_seen)))
    if len(seen) == len(hands):
        return (hands, ((hands,),), place, other_place)
    # The first block sees itself alone: whichever hands it is made of, the other one, behind it, keeps its place.
    rest = [hand for hand in hands if hand != other_place]
    block = tuple(rest[:len(seen)])
    later = tuple([hand for hand in hands if hand not in block])
    return (hands, ((block, later),), block[place], other_place)


def told_way(many):
    """A WAY of the TYPES of one round of up to so many hands that never clashes."""
    return {type_here: number + 1 for number, type_here in enumerate(one_round_types(many))}
