"""What the tests share: odd things, strict comparison, and a second telling of the stands of a decider."""

import itertools

from handnames.errors import HandError

WORDS = ("out", "ask", "close", "look", "holds", "right", "down")


def nested(depth, kind=tuple):
    """Empty tuples or lists within one another, so many."""
    thing = kind()
    for level in range(depth - 1):
        thing = kind([thing])
    return thing


# Things that are no stand, no part of one but where a test says so, and no sentence or part of one.
ODD = [
    None, True, False, -1, 6, 7, 10 ** 39, -(10 ** 39), "", " ", "Out", "outs", "hold", "~", "0", "None",
    "each", [], [None], [[], ()], (None,), ((),), (True,), (0,), nested(60), nested(60, list),
    ("out",), ["out"], [0, 1], (None, False), [None, False, ["out"]], ("x",) * 19999,
]


def swapped(thing, odd):
    """The thing with the odd one in place of itself or of one thing within it, every such place in turn."""
    yield odd
    if isinstance(thing, (tuple, list)):
        for at, part in enumerate(thing):
            for other in swapped(part, odd):
                yield type(thing)(list(thing[:at]) + [other] + list(thing[at + 1:]))


def every_stand(many):
    """All stands of a decider in the told order, told a second time."""
    marks = [None, *range(many)]
    rows = itertools.product(marks, (False, True), itertools.product(WORDS, repeat=many))
    return [tuple(row) for row in rows]


def found_from(start, many, behind):
    """All stands to which some weaving leads, by a function that tells the stand behind a hand's step, or None."""
    found = {start}
    waiting = [start]
    while waiting:
        stand = waiting.pop()
        for hand in range(many):
            new = behind(stand, hand)
            if new is not None and new not in found:
                found.add(new)
                waiting.append(new)
    return found


def assert_same(case, one, other):
    """Alike in kind as well, all through: a truth is no number, a list no tuple."""
    case.assertEqual(repr(one), repr(other))


def assert_told(case, expected, ask, *arguments):
    """The answer is just this one, and what was handed in stays as it was."""
    before = repr(arguments)
    assert_same(case, ask(*arguments), expected)
    case.assertEqual(repr(arguments), before)


def assert_refused(case, refusal, ask, *arguments):
    """It is refused with just this refusal, kept fields and all, and what was handed in stays as it was."""
    before = repr(arguments)
    try:
        answer = ask(*arguments)
    except HandError as caught:
        case.assertIs(type(caught), type(refusal), before[:300])
        case.assertEqual(repr(vars(caught)), repr(vars(refusal)), before[:300])
    else:
        case.fail(f"{before[:300]} is not refused: {repr(answer)[:100]}")
    case.assertEqual(repr(arguments), before)
