"""Refusals. Each keeps the very things that it is made of, by the names of its fields."""


class HandError(ValueError):
    """Any refusal, made of a text."""

    def __init__(self, text):
        ValueError.__init__(self, text)


class NoStep(HandError):
    """The hand makes no step in the stand."""

    def __init__(self, hand):
        HandError.__init__(self, f"hand {hand} makes no step")
        self.hand = hand


class NoPaper(HandError):
    """A thing is not let by as a paper: what is wrong with it, and where."""

    def __init__(self, word, at):
        HandError.__init__(self, f"no such paper: {word} at {at}")
        self.word = word
        self.at = at


class NoStand(HandError):
    """A thing is not let by as a stand: what is wrong with it, and where."""

    def __init__(self, word, at):
        HandError.__init__(self, f"no such stand: {word} at {at}")
        self.word = word
        self.at = at


class TooMany(HandError):
    """There are more of what the word names than are told."""

    def __init__(self, word):
        HandError.__init__(self, f"too many {word}")
        self.word = word


class NoType(HandError):
    """A way has no name for what a hand saw."""

    def __init__(self, type_here):
        HandError.__init__(self, f"the way has no name at {type_here}")
        self.type_here = type_here


class NoRow(HandError):
    """A text is no row that a desk knows, made of a text."""
