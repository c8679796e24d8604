"""What things are made of: asked by all that says whether a thing is well formed."""


def is_number(thing):
    """Whether it is a whole number; True and False are none, though Python counts them among its integers."""
    return isinstance(thing, int) and not isinstance(thing, bool)


def are_numbers(things):
    """Whether each of a list or tuple is a number."""
    return all([is_number(thing) for thing in things])
