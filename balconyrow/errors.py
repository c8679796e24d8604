"""All refusals: each is a class of its own, with what it was made with as its field.

The fields are kept as they come and not written into words here: a number may be too long for that.
"""


class Outside(ValueError):
    """The row is not in the box, on account of this one."""

    def __init__(self, who):
        self.who = who


class Unlike(ValueError):
    """The two boxes are not of the same folk."""


class NoView(ValueError):
    """No number of taller ones ahead lets this one be seen so."""

    def __init__(self, who):
        self.who = who


class Known(ValueError):
    """One of this height stands in the row already."""

    def __init__(self, who):
        self.who = who


class BadText(ValueError):
    """The word of this number is not written as it must be."""

    def __init__(self, at):
        self.at = at


class BadRow(ValueError):
    """The row of this number in a text is not written as it must be."""

    def __init__(self, number):
        self.number = number


class NoSide(ValueError):
    """A side is left or right, nothing else."""

    def __init__(self, side):
        self.side = side


class NoOne(LookupError):
    """Nobody of this height is there."""

    def __init__(self, who):
        self.who = who


class NoPlace(LookupError):
    """There is no such place."""

    def __init__(self, place):
        self.place = place


class NoRow(LookupError):
    """The box has no row of this number."""

    def __init__(self, number):
        self.number = number


class NoFloor(LookupError):
    """The house has no such floor."""

    def __init__(self, floor):
        self.floor = floor


class NoDeed(LookupError):
    """Not so many deeds stand."""

    def __init__(self, many):
        self.many = many


class Held(RuntimeError):
    """The exchange would take this one out of its stretch."""

    def __init__(self, who):
        self.who = who


class Barred(RuntimeError):
    """This wall keeps one row from being led to the other."""

    def __init__(self, who):
        self.who = who


class Seen(RuntimeError):
    """Some floor would see the exchange at this place."""

    def __init__(self, place):
        self.place = place


class Stands(RuntimeError):
    """The house has this floor already."""

    def __init__(self, floor):
        self.floor = floor


class Last(RuntimeError):
    """The only one of a row cannot go."""


class TooMany(OverflowError):
    """There are more than are listed."""

    def __init__(self, many):
        self.many = many
