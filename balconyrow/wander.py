"""Wandering in a box: exchanges of two neighbours behind which the row is in it still."""

from balconyrow.boxes import refuse_outside
from balconyrow.errors import Held
from balconyrow.rows import exchanged, taller_ahead


def may_change(box, row):
    """The rising list of all places that may be exchanged with the next; refused with Outside."""
    refuse_outside(box, row)
    return [place for place in range(len(row) - 1) if stays_in(box, row, place)]


def changed(box, row, place):
    """The ROW behind one exchange; refused with Outside, NoPlace, Held."""
    refuse_outside(box, row)
    return step(box, row, place)


def changed_all(box, row, places):
    """The ROW behind all exchanges, one behind the other; refused with Outside, then as the first that is."""
    refuse_outside(box, row)
    after = tuple(row)
    for place in places:
        after = step(box, after, place)
    return after


def step(box, row, place):
    """The ROW behind one exchange of a row that is known to be in the box; refused with NoPlace, Held."""
    after = exchanged(row, place)
    if not stays_in(box, row, place):
        raise Held(lesser_at(row, place))
    return after


def stays_in(box, row, place):
    """Whether a row that is in the box is in it still behind the exchange at a place that there is."""
    # Nobody but the lesser of the two has other taller ones ahead then.
    lesser = lesser_at(row, place)
    ahead = taller_ahead(exchanged(row, place), lesser)
    return any([who == lesser and least <= ahead <= greatest for who, least, greatest in box])


def lesser_at(row, place):
    """The lesser of those at place and place + 1."""
    return min(row[place], row[place + 1])
