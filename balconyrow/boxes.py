"""Boxes: for everybody a stretch of how many taller ones it may have ahead, free of all others'."""

from balconyrow.errors import NoRow, Outside, TooMany, Unlike
from balconyrow.kinds import are_numbers
from balconyrow.limits import MOST_ROWS
from balconyrow.rows import all_taller_ahead, code_of, folk_of, row_of


def is_box(thing):
    """Whether a thing is a BOX: a tuple of triples (who, least, greatest), heights falling, one at least."""
    if not isinstance(thing, tuple) or len(thing) == 0:
        return False
    if not all([is_triple(part) for part in thing]):
        return False
    heights = folk_in(thing)
    if not all([taller > shorter for taller, shorter in zip(heights, heights[1:])]):
        return False
    return all([0 <= least <= greatest <= place for place, (who, least, greatest) in enumerate(thing)])


def is_in(box, row):
    """Whether the row has just the folk of the box, each within its stretch."""
    return stray_of(box, row) is None


def how_many(box):
    """How many rows are in the box."""
    many = 1
    # Each code whose numbers lie in the stretches is the code of one row.
    for who, least, greatest in box:
        many *= greatest - least + 1
    return many


def row_at(box, number):
    """The row of that number, by the codes as they rise; refused with NoRow."""
    if not 0 <= number < how_many(box):
        raise NoRow(number)
    code = []
    left = number
    # The shortest one's number changes first as codes rise.
    for who, least, greatest in box[::-1]:
        left, above = divmod(left, greatest - least + 1)
        code.append(least + above)
    return row_of(folk_in(box), code[::-1])


def number_of(box, row):
    """The number of the row; refused with Outside."""
    refuse_outside(box, row)
    number = 0
    for (who, least, greatest), ahead in zip(box, code_of(row)):
        number = number * (greatest - least + 1) + ahead - least
    return number


def whole_box(folk):
    """The BOX in which all rows of these folk are, told in any order."""
    return tuple([(who, 0, place) for place, who in enumerate(folk_of(folk))])


def both(box, other):
    """The BOX of all rows that are in both, None where there is none; refused with Unlike."""
    if folk_in(box) != folk_in(other):
        raise Unlike()
    shared = []
    for (who, least, greatest), (same, lower, upper) in zip(box, other):
        if max(least, lower) > min(greatest, upper):
            return None
        shared.append((who, max(least, lower), min(greatest, upper)))
    return tuple(shared)


def all_in(box):
    """The list of all rows, by their numbers; refused with TooMany."""
    many = how_many(box)
    if many > MOST_ROWS:
        raise TooMany(many)
    return [row_at(box, number) for number in range(many)]


def is_triple(thing):
    """Whether a thing is a tuple of three numbers."""
    return isinstance(thing, tuple) and len(thing) == 3 and are_numbers(thing)


def folk_in(box):
    """The folk of a box, from the tallest on."""
    return [who for who, least, greatest in box]


def refuse_outside(box, row):
    """Refused with Outside where the row is not in the box."""
    who = stray_of(box, row)
    if who is not None:
        raise Outside(who)


def stray_of(box, row):
    """The one on whose account the row is not in the box; None where it is."""
    ahead = all_taller_ahead(row)
    for who, least, greatest in box:
        if who not in ahead or not least <= ahead[who] <= greatest:
            return who
    # All of the box are in the row, so others are there just where it has more.
    if len(row) == len(box):
        return None
    known = folk_in(box)
    return max([one for one in row if one not in known])
