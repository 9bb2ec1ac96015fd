"""A desk told once more: its machine by a pattern, its stand by the models, its answers by what they tell."""

import re

from handnames.machines import first
from test_machines import behind, hands_of

NUMBER = "(?:0|[1-9][0-9]*)"
NUMBERS = f"{NUMBER}(?:,{NUMBER})*"
ROWS = re.compile(rf"(step|left) ({NUMBER})|(weave) ({NUMBERS})|(anew|names|work|bound|can|check)")


def text_of(machine):
    """The words of a MACHINE."""
    if machine[0] == "levels":
        return "levels " + ",".join(map(str, machine[1]))
    return " ".join(map(str, machine))


def left_of(machine, stand, hand):
    """A hand's count."""
    if machine[0] == "decider":
        return {"out": 4, "ask": 3, "close": 2, "look": 1}.get(stand[2][hand], 0)
    many = hands_of(machine)
    word = stand[1][hand][1] if machine[0] == "net" else stand[1][hand][0]
    if word == "holds":
        return 0
    if machine[0] == "net":
        return 4 * (many - len(stand[1][hand][0])) - ("out", "ask", "close", "look").index(word)
    if machine[0] == "levels":
        return 2 * many if word == "out" else 2 * stand[1][hand][1] - (word == "look")
    return many + 1 if word == "rests" else many - stand[1][hand][1] + 1


def names_of(machine, stand):
    """The names as they are told, hand by hand."""
    told = []
    for hand in range(hands_of(machine)):
        if machine[0] == "decider":
            told.append("1" if stand[2][hand] == "holds" else "-")
        elif machine[0] == "net":
            trail, word = stand[1][hand]
            row = trail.count("down")
            cells = sum(range(len(trail) + 1)) + row
            told.append(str(cells + 1) if word == "holds" else "-")
        elif stand[1][hand][0] != "holds":
            told.append("-")
        elif machine[0] == "levels":
            view = stand[1][hand][1]
            place = sorted(machine[1][other] for other in view).index(machine[1][hand])
            told.append(str(sum(range(len(view))) + place + 1))
        else:
            told.append(str(stand[1][hand][1]))
    return told


def working(machine, stand):
    """How many hands are at work."""
    if machine[0] == "decider":
        return sum(word != "out" for word in stand[2])
    return sum(here not in (((), "out"), ("out",), ("rests",)) for here in stand[1])


class Told:
    """What a desk is to answer: a text, or the name of the refusal, with the hand."""

    def __init__(self, machine):
        self.machine = machine
        self.stand = first(machine)

    def movers(self):
        return [hand for hand in range(hands_of(self.machine)) if behind(self.machine, self.stand, hand)]

    def say(self, row):
        found = ROWS.fullmatch(row)
        parts = [part for part in found.groups() if part] if found else [None]
        hands = [int(hand) for hand in parts[1].split(",")] if len(parts) > 1 else []
        if not found or len(hands) > 40 or max(hands, default=0) >= hands_of(self.machine):
            return ("NoRow",)
        word = parts[0]
        if word == "step" and hands[0] not in self.movers():
            return ("NoStep", hands[0])
        if word in ("step", "weave"):
            for hand in hands:
                self.stand = behind(self.machine, self.stand, hand) or self.stand
            return "ok"
        return self.asked(word, hands)

    def asked(self, word, hands):
        """What is due of a row that makes no step."""
        if word == "anew":
            self.stand = first(self.machine)
            return "ok"
        if word == "left":
            return str(left_of(self.machine, self.stand, hands[0]))
        if word == "bound":
            row = self.machine[0] == "row"
            many = self.stand[2] if row else working(self.machine, self.stand)
            return str(sum(range(many + 1)) if self.machine[0] in ("net", "levels") else many)
        return {
            "names": lambda: " ".join(names_of(self.machine, self.stand)),
            "work": lambda: str(working(self.machine, self.stand)),
            "can": lambda: " ".join(map(str, self.movers())) or "-",
            "check": lambda: "yes",
        }[word]()
