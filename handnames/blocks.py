"""Levels and rounds: the round that the views held in the end are of, and a weaving that leads to a round's views."""


def round_of(stand):
    """The ROUND of a STAND of levels that is let by and in which all hands hold."""
    sizes = [len(view) for word, view in stand[1]]
    return tuple([hands_at(sizes, size) for size in sorted(set(sizes))])


def hands_at(sizes, size):
    """The hands that hold views of this size, rising."""
    return tuple([hand for hand, here in enumerate(sizes) if here == size])


def weaving_of(round_here):
    """A WEAVING by which each hand comes to hold as view just the hands that it sees in the ROUND."""
    many = sum([len(block) for block in round_here])
    weaving = ()
    seen = 0
    for block in round_here:
        seen += len(block)
        # The hands of a block go down side by side, behind the blocks ahead: at each level above this number they
        # are too few, so two steps a level bring them all to hold just there.
        weaving += block * (2 * (many - seen + 1))
    return weaving
