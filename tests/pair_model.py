"""Papers of pairs told once more: TYPES of one round by their two numbers, how many are seen and the place."""

import itertools

from look_model import drawn_greats, drawn_round, one_round


def numbers(many):
    """All (size, place) in the told order."""
    return [(size, place) for size in range(1, many + 1) for place in range(size)]


def number_of(greats, one, hand):
    """The (size, place) of a hand behind a single ROUND."""
    at = [hand in block for block in one].index(True)
    seen = set().union(*one[:at + 1])
    return (len(seen), len([other for other in seen if greats[other] < greats[hand]]))


def pair_of(entry):
    """The two (size, place) of an entry's hands."""
    greats, (one,), hand, other = entry
    return {number_of(greats, one, hand), number_of(greats, one, other)}


def fault_of(many, paper):
    """What is due of a tuple of entries: None, or the word and the number."""
    had = [pair_of(entry) for entry in paper]
    for number, pair in enumerate(itertools.combinations(numbers(many), 2)):
        if set(pair) not in had:
            return ("pair", number)
    return None


def drawn_entry(chance, many):
    """Any entry for at most so many hands."""
    hands = chance.randrange(2, many + 1)
    greats = drawn_greats(chance, hands)
    one = drawn_round(chance, chance.sample(range(hands), chance.randrange(2, hands + 1)))
    return (greats, (one,), *chance.sample(sorted(set().union(*one)), 2))


def drawn_paper(chance, many):
    """Any paper that is let by: entries drawn till all pairs are had, none for nothing, in any order."""
    had, paper = [], []
    while len(had) < len(numbers(many)) * (len(numbers(many)) - 1) // 2:
        entry = drawn_entry(chance, many)
        if pair_of(entry) not in had:
            had.append(pair_of(entry))
            paper.append(entry)
    return tuple(paper)


def drawn_way(chance, many, most):
    """Any WAY that has all TYPES of up to so many hands, NAMES up to this one."""
    return {one_round(*number): chance.randrange(1, most + 1) for number in numbers(many)}


def clashing(way, entry):
    """Whether the entry's two hands have one NAME."""
    return len({way[one_round(*number)] for number in pair_of(entry)}) == 1


def first_clash(way, paper):
    """The number of the first entry whose hands have one NAME, or None."""
    return next((at for at, entry in enumerate(paper) if clashing(way, entry)), None)
