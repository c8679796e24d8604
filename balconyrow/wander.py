"""Wandering in a box: exchanges of two neighbours behind which the row is in it still."""

from balconyrow.boxes import refuse_outside
from balconyrow.errors import Held
from balconyrow.rows import all_taller_ahead, exchanged, taller_ahead


def may_change(box, row):
    """The rising list of all places that may be exchanged with the next; refused with Outside."""
    refuse_outside(box, row)
    stretches = stretches_of(box)
    ahead = all_taller_ahead(row)
    return [place for place in range(len(row) - 1) if stays_in(stretches, ahead[lesser_at(row, place)], row, place)]


def changed(box, row, place):
    """The ROW behind one exchange; refused with Outside, NoPlace, Held."""
    return changed_all(box, row, [place])


def changed_all(box, row, places):
    """The ROW behind all exchanges, one behind the other; refused with Outside, then as the first that is."""
    refuse_outside(box, row)
    stretches = stretches_of(box)
    after = tuple(row)
    for place in places:
        after = step(stretches, after, place)
    return after


def step(stretches, row, place):
    """The ROW behind one exchange of a row that is known to be in the box; refused with NoPlace, Held."""
    after = exchanged(row, place)
    lesser = lesser_at(row, place)
    if not stays_in(stretches, taller_ahead(row, lesser), row, place):
        raise Held(lesser)
    return after


def stays_in(stretches, ahead, row, place):
    """Whether a row that is in the box is in it still behind the exchange at a place that there is.

    Ahead is how many taller ones the lesser of the two has ahead by now.
    """
    # Nobody but the lesser has other taller ones ahead then: the other one of the two, or no longer that one.
    more = 1 if row[place] < row[place + 1] else -1
    least, greatest = stretches[lesser_at(row, place)]
    return least <= ahead + more <= greatest


def stretches_of(box):
    """For each one of the box its least and its greatest."""
    return {who: (least, greatest) for who, least, greatest in box}


def lesser_at(row, place):
    """The lesser of those at place and place + 1."""
    return min(row[place], row[place + 1])
