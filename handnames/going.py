"""All stands to which some weaving leads, in the order of finding, and those in which no hand goes on."""

from handnames.errors import TooMany
from handnames.machines import first, moving, stepped

MOST_STANDS = 2000


def reached(machine):
    """The STANDS to which some WEAVING leads, each once, in the order of finding, or TooMany."""
    stands = [first(machine)]
    found = {stands[0]: True}
    at = 0
    while at < len(stands):
        here = stands[at]
        for behind in next_stands(machine, here):
            if behind not in found:
                found[behind] = True
                stands.append(behind)
        if len(stands) > MOST_STANDS:
            raise TooMany("stands")
        at += 1
    return stands


def next_stands(machine, stand):
    """The STANDS behind a step of each hand that makes one, rising by the hands."""
    return [stepped(machine, stand, hand) for hand in moving(machine, stand)]


def ends(machine):
    """Those of the STANDS reached in which no hand makes a step, in the same order, or TooMany."""
    return [stand for stand in reached(machine) if not moving(machine, stand)]
