"""A desk: a machine and its stand, asked and told by rows of text."""

from handnames.errors import NoRow, NoStand
from handnames.levelchecker import levels_left
from handnames.machines import (
    at_work, bound, first, hands_of, is_machine, lets_stand, moving, names, stepped, woven)
from handnames.netchecker import MADE, net_left
from handnames.plain import is_within
from handnames.rowchecker import row_left

FIGURES = "0123456789"
# No number of a text is greater than the greatest great name, 10 ** 9.
MOST_FIGURES = 10

# How many hands a row names at most, by its word.
MOST_NAMED = {"step": 1, "weave": 40, "anew": 0, "names": 0, "work": 0, "bound": 0, "left": 1, "can": 0, "check": 0}


def number_in(text):
    """The number that a text tells by figures, None where it tells none or one beyond all bounds."""
    if not 1 <= len(text) <= MOST_FIGURES or not all([sign in FIGURES for sign in text]):
        return None
    return None if text[0] == "0" and text != "0" else int(text)


def numbers_in(text):
    """The numbers that a text tells, parted by commas, with None in place of what is no number."""
    return tuple([number_in(part) for part in text.split(",")])


def machine_in(text):
    """The MACHINE that a text tells, or NoRow."""
    word, *parts = text.split(" ")
    if word == "levels":
        machine = (word,) + tuple([numbers_in(part) for part in parts])
    else:
        machine = (word,) + tuple([number_in(part) for part in parts])
    if not is_machine(machine):
        raise NoRow(f"no machine of a desk: {text}")
    return machine


def row_in(many, text):
    """The word of a row and the hands that it names, of so many, or NoRow."""
    word, blank, rest = text.partition(" ")
    hands = numbers_in(rest) if blank else ()
    if word not in MOST_NAMED or not are_named(many, MOST_NAMED[word], hands):
        raise NoRow(f"no row of a desk: {text}")
    return (word, hands)


def are_named(many, most, hands):
    """Whether these are hands of so many, no more than the most, and some where the most is not nought."""
    return min(1, most) <= len(hands) <= most and all([is_within(hand, 0, many - 1) for hand in hands])


def parted(things):
    """The things as a text, parted by blanks; - where there are none."""
    return " ".join([str(thing) for thing in things]) if things else "-"


def tell_names(machine, stand):
    """Hand by hand the NAME, - of none."""
    return parted(["-" if name is None else name for name in names(machine, stand)])


def tell_work(machine, stand):
    """How many hands are at work."""
    return str(at_work(machine, stand))


def tell_bound(machine, stand):
    """The BOUND for as many as are at work, of a row for the most that were."""
    return str(bound(machine, stand[2] if machine[0] == "row" else at_work(machine, stand)))


def tell_can(machine, stand):
    """The hands that make a step."""
    return parted(moving(machine, stand))


def tell_check(machine, stand):
    """Whether the stand is let by."""
    try:
        lets_stand(machine, stand)
    except NoStand:
        return "no"
    return "yes"


# What is told of a MACHINE and its stand alone, by the word of the row.
TOLD = {"names": tell_names, "work": tell_work, "bound": tell_bound, "can": tell_can, "check": tell_check}


def left(machine, stand, hand):
    """How many steps of its own are left to the hand at most."""
    if machine[0] == "decider":
        return 4 - MADE.get(stand[2][hand], 4)
    if machine[0] == "net":
        return net_left(machine[1], stand, hand)
    return levels_left(stand, hand) if machine[0] == "levels" else row_left(stand, hand)


class Desk:
    """A MACHINE told by a text, and its stand, at first the first one."""

    def __init__(self, text):
        self.machine = machine_in(text)
        self.stand = first(self.machine)

    def say(self, row):
        """The answer to a row, or NoRow; NoStep of a step that the hand does not make."""
        word, hands = row_in(hands_of(self.machine), row)
        if word == "left":
            return str(left(self.machine, self.stand, hands[0]))
        if word in TOLD:
            tell = TOLD[word]
            return tell(self.machine, self.stand)
        if word == "step":
            self.stand = stepped(self.machine, self.stand, hands[0])
        elif word == "weave":
            self.stand = woven(self.machine, self.stand, hands)
        else:
            self.stand = first(self.machine)
        return "ok"
