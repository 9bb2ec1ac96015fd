"""What all stages ask of plain things, and do with them."""


def is_whole(thing):
    """Whether any thing is a whole number: True is no 1."""
    return isinstance(thing, int) and not isinstance(thing, bool)


def is_within(thing, least, most):
    """Whether any thing is a whole number of these bounds, themselves among them."""
    return is_whole(thing) and least <= thing <= most


def is_one_of(thing, numbers):
    """Whether any thing is one of these whole numbers."""
    return is_whole(thing) and thing in numbers


def is_tuple_of(thing, many):
    """Whether any thing is a tuple of so many."""
    return isinstance(thing, tuple) and len(thing) == many


def are_rising_hands(many, thing):
    """Whether any thing is a rising tuple of some of so many hands."""
    if not isinstance(thing, tuple) or not all([is_within(hand, 0, many - 1) for hand in thing]):
        return False
    return list(thing) == sorted(set(thing))


def with_at(row, at, thing):
    """The tuple with another thing at a place."""
    return row[:at] + (thing,) + row[at + 1:]


def triangle(many):
    """The sum of the numbers from 1 to this one."""
    return many * (many + 1) // 2
