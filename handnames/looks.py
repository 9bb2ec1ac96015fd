"""Looks in rounds: who writes and looks at once with whom, and what each hand has seen in the end."""

from handnames.plain import are_rising_hands

MOST_ROUNDS = 4


def are_rounds(many, thing):
    """Whether any thing is ROUNDS of hands below this number."""
    if not isinstance(thing, tuple) or not 1 <= len(thing) <= MOST_ROUNDS:
        return False
    here = list(range(many))
    for part in thing:
        if not is_round(many, part):
            return False
        ahead, here = here, hands_of_round(part)
        if not all([hand in ahead for hand in here]):
            return False
    return True


def is_round(many, thing):
    """Whether any thing is a ROUND of hands below this number."""
    if not isinstance(thing, tuple) or not thing or not all([is_block(many, part) for part in thing]):
        return False
    hands = hands_of_round(thing)
    return len(set(hands)) == len(hands)


def is_block(many, thing):
    """Whether any thing is a block of hands below this number."""
    return are_rising_hands(many, thing) and len(thing) > 0


def hands_of_round(round_here):
    """The hands of a ROUND, rising."""
    return sorted([hand for block in round_here for hand in block])


def seen_in(round_here, hand):
    """The hands that this hand of the ROUND sees in it, itself among them, rising."""
    seen = []
    for block in round_here:
        seen.extend(block)
        if hand in block:
            break
    return sorted(seen)


def view_of(rounds, hand):
    """The VIEW of a hand of the last of the ROUNDS behind them all."""
    if not rounds:
        return (hand, ())
    ahead = rounds[:-1]
    return (hand, tuple([view_of(ahead, other) for other in seen_in(rounds[-1], hand)]))
