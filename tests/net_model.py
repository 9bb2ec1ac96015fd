"""A net told once more, not in the program's own way: walks of cells, boxes that are changed, sets of words."""

import functools
import itertools

from plain_things import found_from

HERE = ("out", "ask", "close", "look", "holds")
WAYS = ("right", "down")


def cells(size):
    """The cells (r, c) in the order of their numbers."""
    return [(r, t - r) for t in range(size) for r in range(t + 1)]


def trails(size):
    """All trails within a net, the short ones first."""
    return [trail for made in range(size) for trail in itertools.product(WAYS, repeat=made)]


def walk(trail):
    """The cells from the first one to the one where the trail leads."""
    r = c = 0
    come = [(r, c)]
    for way in trail:
        r, c = (r + 1, c) if way == "down" else (r, c + 1)
        come.append((r, c))
    return come


class NetModel:
    """Boxes and hands that are changed by the steps."""

    def __init__(self, size, stand):
        self.size = size
        self.boxes = dict(zip(cells(size), [list(box) for box in stand[0]]))
        self.hands = [[list(trail), word] for trail, word in stand[1]]

    def stand(self):
        boxes = tuple((mark, closed) for mark, closed in self.boxes.values())
        return (boxes, tuple((tuple(trail), word) for trail, word in self.hands))

    def step(self, hand):
        """Whether the hand made a step."""
        trail, word = self.hands[hand]
        box = self.boxes[walk(trail)[-1]]
        if word == "out":
            box[0] = hand
            self.hands[hand][1] = "ask"
        elif word == "ask" and not box[1]:
            self.hands[hand][1] = "close"
        elif word == "close":
            box[1] = True
            self.hands[hand][1] = "look"
        elif word == "look" and box[0] == hand:
            self.hands[hand][1] = "holds"
        elif word == "holds" or len(trail) + 1 == self.size:
            return False
        else:
            trail.append("right" if word == "ask" else "down")
            self.hands[hand][1] = "out"
        return True


def behind(size, stand, hand):
    """The stand behind the hand's step, or None."""
    model = NetModel(size, stand)
    return model.stand() if model.step(hand) else None


def words_at(size, hands, cell):
    """The words of the hands at a cell (r, c)."""
    words = []
    for trail, word in hands:
        left = dict(zip(walk(trail), list(trail) + [word]))
        words.append(left.get(cell, "out"))
    return tuple(words)


@functools.lru_cache(maxsize=None)
def faults(mark, closed, words):
    """The words of all faults of a local stand, in the told order."""
    hold = [hand for hand, word in enumerate(words) if word == "holds"]
    due = [
        ("open", not closed and bool({"look", "holds", "right", "down"} & set(words))),
        ("closed", closed and set(words) <= {"out", "ask", "close", "right"}),
        ("free", mark is None and set(words) != {"out"}),
        ("mark", mark is not None and words[mark] in {"out", "down"}),
        ("late", any(mark is not None and mark != hand and words[mark] in {"close", "look"} for hand in hold)),
        ("twice", len(hold) >= 2),
    ]
    return tuple(word for word, is_due in due if is_due)


def fault_of(size, stand):
    """What is due of a STAND: None, or the word and the cell's number."""
    for number, cell in enumerate(cells(size)):
        due = faults(*stand[0][number], words_at(size, stand[1], cell))
        if due:
            return (due[0], number)
    return None


@functools.lru_cache(maxsize=None)
def boxes_let(words):
    """All (mark, closed) that go with these words at a cell without a fault."""
    marks = [None, *range(len(words))]
    return [box for box in itertools.product(marks, (False, True)) if not faults(*box, words)]


def boxes_of(size, hands):
    """Cell by cell all boxes that go with these hands."""
    return [boxes_let(words_at(size, hands, cell)) for cell in cells(size)]


def all_stands(size, many):
    """All STANDS of a net, let by or not."""
    here = list(itertools.product(trails(size), HERE))
    boxes = list(itertools.product([None, *range(many)], (False, True)))
    return itertools.product(
        itertools.product(boxes, repeat=len(cells(size))), itertools.product(here, repeat=many))


def all_let(size, many):
    """All STANDS of a net without a fault."""
    here = list(itertools.product(trails(size), HERE))
    for hands in itertools.product(here, repeat=many):
        for boxes in itertools.product(*boxes_of(size, hands)):
            yield (boxes, hands)


def drawn_stand(chance, size, many):
    """Any STAND, most of them with faults."""
    marks = [None, *range(many)]
    boxes = tuple((chance.choice(marks), chance.random() < 0.5) for cell in cells(size))
    return (boxes, tuple((chance.choice(trails(size)), chance.choice(HERE)) for hand in range(many)))


def drawn_let(chance, size, many):
    """Any STAND without a fault, come to or not."""
    while True:
        lengths = [chance.randrange(chance.randrange(1, many + 1)) for hand in range(many)]
        hands = tuple(
            (tuple(chance.choice(WAYS) for way in range(length)), chance.choice(HERE)) for length in lengths)
        boxes = boxes_of(size, hands)
        if all(boxes):
            return (tuple(chance.choice(box) for box in boxes), hands)


def found_stands(size, many):
    """All stands to which some weaving leads from the first one."""
    start = (((None, False),) * len(cells(size)), (((), "out"),) * many)
    return found_from(start, many, lambda stand, hand: behind(size, stand, hand))
