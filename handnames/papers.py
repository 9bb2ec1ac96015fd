"""Papers of sentences: which ones carry themselves, what they show, and one that is told."""

from handnames.deciders import all_deciders, first_decider, moving_hands, step_decider
from handnames.errors import NoPaper
from handnames.sentences import is_sentence, is_so

MOST_SENTENCES = 12

# One SENTENCE for each word of the checker of nets, in its order: open, closed, free, mark, late, twice. Where all
# hands went right the first two can't both be so; where all went down some mark stands, and the fourth is not so.
TOLD = (
    ("each", ("either", ("closed",), ("at", 0, ("out", "ask", "close")))),
    ("some", ("either", ("not", ("closed",)), ("at", 0, ("look", "holds", "down")))),
    ("each", ("either", ("not", ("free",)), ("at", 0, ("out",)))),
    ("each", ("not", ("both", ("mark", 0), ("at", 0, ("out", "down"))))),
    ("pairs", ("not", ("both", ("at", 0, ("holds",)), ("both", ("mark", 1), ("at", 1, ("close", "look")))))),
    ("pairs", ("not", ("both", ("at", 0, ("holds",)), ("at", 1, ("holds",))))),
)


def lets_paper(many, thing):
    """True where any thing is a paper that carries itself for so many hands, or NoPaper."""
    carried_stands(many, thing)
    return True


def shows(many, paper, sentence):
    """True where the paper is let by and the SENTENCE is so wherever the paper's are, or NoPaper."""
    if not all([is_so(stand, sentence) for stand in carried_stands(many, paper)]):
        raise NoPaper("saying", 0)
    return True


def told_paper():
    """A PAPER that shows that no two hands hold, that not all went right, that not all went down."""
    return TOLD


def carried_stands(many, thing):
    """All STANDS in which all SENTENCES of a paper that carries itself are so, or NoPaper."""
    check_shape(thing)
    faults = {stand: first_fault(thing, stand) for stand in all_deciders(many)}
    at_first = faults[first_decider(many)]
    if at_first is not None:
        raise NoPaper("first", at_first)
    stands = [stand for stand in faults if faults[stand] is None]
    led_out = [faults[behind] for stand in stands for behind in stands_next(stand) if faults[behind] is not None]
    if led_out:
        raise NoPaper("step", min(led_out))
    return stands


def check_shape(thing):
    """NoPaper where any thing is no PAPER."""
    if not isinstance(thing, tuple) or len(thing) > MOST_SENTENCES:
        raise NoPaper("shape", 0)
    for at, part in enumerate(thing):
        if not is_sentence(part):
            raise NoPaper("shape", at)


def first_fault(paper, stand):
    """The place of the first SENTENCE that is not so in the STAND, None where all are."""
    for at, sentence in enumerate(paper):
        if not is_so(stand, sentence):
            return at
    return None


def stands_next(stand):
    """The STANDS behind a step of each hand that makes one."""
    return [step_decider(stand, hand) for hand in moving_hands(stand)]
