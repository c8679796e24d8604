"""What things are made of: asked by all that says whether a thing is well formed."""


def is_number(thing):
    """Whether it is a whole number; True and False are none, though Python counts them among its integers."""
    return isinstance(thing, int) and not isinstance(thing, bool)


def are_numbers(things):
    """Whether each of a list or tuple is a number."""
    return all([is_number(thing) for thing in things])


def is_just(thing, told):
    """Whether a thing is what is told, numbers and tuples of them: no list for a tuple, no True for 1, at any depth."""
    if not isinstance(told, tuple):
        return is_number(thing) and thing == told
    if not isinstance(thing, tuple) or len(thing) != len(told):
        return False
    return all([is_just(part, wanted) for part, wanted in zip(thing, told)])
