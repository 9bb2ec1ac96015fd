"""Rings: entries of two hands, each linked to the next by one of its TYPES; round an odd one two names can't go."""

from handnames.errors import NoPaper
from handnames.looks import are_rounds
from handnames.machines import are_greats
from handnames.plain import is_tuple_of
from handnames.types import name_by, type_at

MOST_ENTRIES = 81


def lets_ring(many, thing):
    """True where any thing is let by as a RING for so many rounds, or NoPaper."""
    check_entries(many, thing)
    start, here = types_of(thing[0])
    for at in range(1, len(thing)):
        one, other = types_of(thing[at])
        if here not in (one, other):
            raise NoPaper("link", at)
        here = other if here == one else one
    if here != start:
        raise NoPaper("ring", 0)
    return True


def check_entries(many, thing):
    """NoPaper where any thing is no tuple of entries, or not of an odd number of them, or of too many."""
    if not isinstance(thing, tuple) or len(thing) % 2 == 0 or len(thing) > MOST_ENTRIES:
        raise NoPaper("shape", 0)
    for at, part in enumerate(thing):
        if not is_entry(many, part):
            raise NoPaper("entry", at)


def is_entry(many, thing):
    """Whether any thing is an entry of a RING for so many rounds."""
    if not is_tuple_of(thing, 2):
        return False
    greats, rounds = thing
    if not are_greats(greats) or len(greats) != 2:
        return False
    if not are_rounds(2, rounds) or len(rounds) != many:
        return False
    # Who is in the last round is in all of them.
    return sum([len(block) for block in rounds[-1]]) == 2


def types_of(entry):
    """The TYPES of hands 0 and 1 of an entry."""
    greats, rounds = entry
    return (type_at(greats, rounds, 0), type_at(greats, rounds, 1))


def ring_clash(way, paper):
    """The number of the first entry both of whose hands have one NAME by the WAY, None where there is none."""
    for at, (greats, rounds) in enumerate(paper):
        if name_by(way, greats, rounds, 0) == name_by(way, greats, rounds, 1):
            return at
    return None


def told_ring(many):
    """A RING for so many rounds, of three times as many entries with each round more."""
    # It goes from hand 0 that sees itself alone to hand 1 that does: by great names these two are not told apart.
    path = [((), 0)]
    for turn in range(many):
        path = [part for rounds, start in path for part in parted(rounds, start)]
    return tuple([((0, 1), rounds) for rounds, start in path])


def parted(rounds, start):
    """The ROUNDS with one more, in its three ways: a path from what the start hand sees to what the other one does."""
    other = 1 - start
    return [
        (rounds + (((start,), (other,)),), start),
        (rounds + (((0, 1),),), other),
        (rounds + (((other,), (start,)),), start),
    ]
