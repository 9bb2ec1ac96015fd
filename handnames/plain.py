"""What all stages ask of plain things, and do with them."""


def is_whole(thing):
    """Whether any thing is a whole number: True is no 1."""
    return isinstance(thing, int) and not isinstance(thing, bool)


def is_within(thing, least, most):
    """Whether any thing is a whole number of these bounds, themselves among them."""
    return is_whole(thing) and least <= thing <= most


def is_tuple_of(thing, many):
    """Whether any thing is a tuple of so many."""
    return isinstance(thing, tuple) and len(thing) == many


def with_at(row, at, thing):
    """The tuple with another thing at a place."""
    return row[:at] + (thing,) + row[at + 1:]


def triangle(many):
    """The sum of the numbers from 1 to this one."""
    return many * (many + 1) // 2
