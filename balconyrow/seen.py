"""What floors see leaves each one a stretch, free of all others': a box."""

from balconyrow.errors import NoView
from balconyrow.houses import seen_by_all
from balconyrow.rows import folk_of


def box_of(folk, houses, views):
    """The BOX in which just the rows are that have these views; refused with NoView."""
    box = []
    for taller, who in enumerate(folk_of(folk)):
        least, greatest = stretch_of(who, taller, houses, views)
        if least > greatest:
            raise NoView(who)
        box.append((who, least, greatest))
    return tuple(box)


def box_seen(row, houses):
    """The BOX in which just the rows are that have the same views as this one."""
    return box_of(row, houses, seen_by_all(row, houses))


def alike(one, other, houses):
    """Whether two rows have the same folk and the same views."""
    return folk_of(one) == folk_of(other) and seen_by_all(one, houses) == seen_by_all(other, houses)


def stretch_of(who, taller, houses, views):
    """From how many to how many of the taller ones who may have ahead, to be seen so.

    The least is above the greatest where no number does.
    """
    left, right = houses
    seen_left, seen_right = views
    least, greatest = 0, taller
    for floor, seen in zip(left, seen_left):
        if who in seen:
            greatest = min(greatest, floor - 1)
        else:
            least = max(least, floor)
    # A right floor counts those behind, who are all taller ones but those ahead.
    for floor, seen in zip(right, seen_right):
        if who in seen:
            least = max(least, taller - floor + 1)
        else:
            greatest = min(greatest, taller - floor)
    return least, greatest
