"""Great names changed, their order kept."""


def changed(greats, numbers):
    """The GREATS with, for each, the number at its place among them, of as many rising numbers."""
    return tuple([numbers[place] for place in places_of(greats)])


def places_of(greats):
    """Hand by hand the place of its great name among all, rising."""
    rising = sorted(greats)
    return [rising.index(great) for great in greats]


def alike(greats, others):
    """Whether each two hands' great names lie the same way about in both GREATS."""
    return places_of(greats) == places_of(others)
