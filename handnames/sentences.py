"""Sentences about the stands of a decider: what is one, and where one is so."""

from handnames.deciders import WORDS
from handnames.plain import is_one_of, is_tuple_of

MOST_FORMULAS = 20
MOST_WITHIN = 8

# Which of 0 and 1 the FORMULA of a SENTENCE may speak of.
HANDS = {"each": (0,), "some": (0,), "pairs": (0, 1), "plain": ()}

# How many parts a FORMULA has, its word counted.
PARTS = {"at": 3, "mark": 2, "free": 1, "closed": 1, "not": 2, "both": 3, "either": 3}


def is_sentence(thing):
    """Whether any thing is a SENTENCE."""
    # Only a text is looked up: a list can be no key.
    if not is_tuple_of(thing, 2) or not isinstance(thing[0], str) or thing[0] not in HANDS:
        return False
    return is_formula(thing[1], HANDS[thing[0]])


def is_formula(thing, hands):
    """Whether any thing is a FORMULA that speaks of these of 0 and 1 alone."""
    waiting = [(thing, 1)]
    many = 0
    while waiting:
        here, level = waiting.pop()
        many += 1
        if many > MOST_FORMULAS or level > MOST_WITHIN or not is_built(here, hands):
            return False
        waiting.extend([(part, level + 1) for part in formulas_in(here)])
    return True


def is_built(thing, hands):
    """Whether any thing is made as a FORMULA, whatever stands where FORMULAS should stand in it."""
    if not isinstance(thing, tuple) or len(thing) == 0 or not isinstance(thing[0], str):
        return False
    word = thing[0]
    if PARTS.get(word) != len(thing):
        return False
    if word == "at":
        return is_one_of(thing[1], hands) and are_words(thing[2])
    return word != "mark" or is_one_of(thing[1], hands)


def formulas_in(formula):
    """What stands where FORMULAS should stand right in a thing that is made as one."""
    return formula[1:] if formula[0] in ("not", "both", "either") else ()


def are_words(thing):
    """Whether any thing is a tuple of some of the WORDS, unlike, perhaps of none."""
    if not isinstance(thing, tuple) or not all([word in WORDS for word in thing]):
        return False
    return len(set(thing)) == len(thing)


def is_so(stand, sentence):
    """Whether the SENTENCE is so in the STAND of a decider."""
    word, formula = sentence
    answers = [says(formula, stand, hands) for hands in hands_meant(word, len(stand[2]))]
    return any(answers) if word == "some" else all(answers)


def hands_meant(word, many):
    """All that 0 and 1 stand for, one behind the other, in a SENTENCE of this word, of so many hands."""
    if word == "plain":
        return [()]
    if word == "pairs":
        return [(one, other) for one in range(many) for other in range(many) if one != other]
    return [(hand,) for hand in range(many)]


def says(formula, stand, hands):
    """Whether the FORMULA is so in the STAND, of these hands for 0 and 1."""
    mark, closed, words = stand
    word = formula[0]
    if word == "at":
        return words[hands[formula[1]]] in formula[2]
    if word == "mark":
        return mark == hands[formula[1]]
    if word == "free":
        return mark is None
    if word == "closed":
        return closed
    if word == "not":
        return not says(formula[1], stand, hands)
    if word == "both":
        return says(formula[1], stand, hands) and says(formula[2], stand, hands)
    return says(formula[1], stand, hands) or says(formula[2], stand, hands)
