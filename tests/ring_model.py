"""Rings told once more: all entries of two hands as edges between TYPES, which lie round one great circle."""

import itertools

from look_model import types

WAYS = (((0,), (1,)), ((0, 1),), ((1,), (0,)))


def all_entries(many):
    """All entries for so many rounds whose great names are 3 and 8."""
    return [(greats, rounds) for greats in ((3, 8), (8, 3)) for rounds in itertools.product(WAYS, repeat=many)]


def ends_of(entry):
    """The TYPES of hands 0 and 1."""
    told = types(*entry)
    return told[0], told[1]


def circle(many):
    """The TYPES, in their order round the circle, and for each place the entries between it and the next one."""
    entries = {}
    for entry in all_entries(many):
        entries.setdefault(frozenset(ends_of(entry)), []).append(entry)
    order = list(next(iter(entries)))
    while True:
        onward = [set(edge) - {order[-1]} for edge in entries if order[-1] in edge and order[-2] not in edge]
        new = onward[0].pop()
        if new == order[0]:
            break
        order.append(new)
    return order, [entries[frozenset((one, other))] for one, other in zip(order, order[1:] + order[:1])]


def widened(chance, entry):
    """The entry with other great names of the same order."""
    low, high = sorted(chance.sample([0, 1, 9, 10, 77, 10 ** 9 - 1, 10 ** 9], 2))
    return ({3: low, 8: high}[entry[0][0]], {3: low, 8: high}[entry[0][1]]), entry[1]


def ring_along(chance, order, edges, start, steps):
    """Entries along the circle from this place, by steps of 1 and -1, hand 0 of the first one at the start."""
    ring = []
    here = start
    for step in steps:
        choices = edges[(here if step == 1 else here - 1) % len(order)]
        if not ring:
            choices = [entry for entry in choices if ends_of(entry)[0] == order[here % len(order)]]
        ring.append(widened(chance, chance.choice(choices)))
        here += step
    return tuple(ring)


def drawn_ring(chance, order, edges, count):
    """A ring of so many entries, once about (or more often), there and back again, anywhere begun."""
    size = len(order)
    about = chance.choice([times for times in (1, 3, 5) if times * size <= count])
    back = (count - about * size) // 2
    steps = [1] * (about * size + back) + [-1] * back
    chance.shuffle(steps)
    if chance.random() < 0.5:
        steps = [-step for step in steps]
    return ring_along(chance, order, edges, chance.randrange(size), steps)


def fault_of(paper):
    """What is due of an odd number of entries: None, or the word and the number."""
    told = [ends_of(entry) for entry in paper]
    first, here = told[0]
    for at, pair in enumerate(told[1:], 1):
        if pair.count(here) == 0:
            return ("link", at)
        here = pair[1 - pair.index(here)]
    return None if here == first else ("ring", 0)


def first_clash(way, paper):
    """The number of the first entry both of whose hands have one NAME, or None."""
    for at, entry in enumerate(paper):
        if len({way[type_here] for type_here in ends_of(entry)}) == 1:
            return at
    return None
