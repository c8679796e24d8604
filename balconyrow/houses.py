"""Houses at both ends of a row, and what their floors see."""

from balconyrow.kinds import are_numbers
from balconyrow.rows import all_taller_ahead, folk_of, refuse_no_pair, taller_ahead, taller_among, taller_behind, turned

SIDES = ("left", "right")


def is_houses(thing):
    """Whether a thing is HOUSES: a pair of rising tuples of numbers from 1."""
    return isinstance(thing, tuple) and len(thing) == 2 and all([are_floors(side) for side in thing])


def views(row, houses):
    """The VIEWS: for each floor of either side the rising tuple of those it sees."""
    return seen_by_all(row, houses)


def seen_by(row, houses, who):
    """How many left floors, and how many right ones, see who; refused with NoOne."""
    left, right = houses
    return (floors_above(left, taller_ahead(row, who)), floors_above(right, taller_behind(row, who)))


def told_by(row, houses, place):
    """The floors that see others when those at place and place + 1 are exchanged; refused with NoPlace."""
    refuse_no_pair(row, place)
    return [(side, floor) for side, floors, floor in zip(SIDES, houses, tellers(row, place)) if floor in floors]


def are_floors(thing):
    """Whether a thing is the floors of one side: a rising tuple of numbers from 1, maybe of none."""
    if not isinstance(thing, tuple) or not are_numbers(thing):
        return False
    return all([below < above for below, above in zip((0, *thing), thing)])


def seen_by_all(row, houses):
    """The VIEWS, under a name that files can import in which something else is called views."""
    left, right = houses
    return (seen_from_left(row, left), seen_from_left(turned(row), right))


def seen_from_left(row, floors):
    """For each floor at the left end the rising tuple of those it sees."""
    ahead = all_taller_ahead(row)
    rising = folk_of(row)[::-1]
    return tuple([tuple([who for who in rising if ahead[who] < floor]) for floor in floors])


def tellers(row, place):
    """The left floor and the right one, there or not, that see others when those at place and place + 1 are exchanged.

    There must be two such.
    """
    lesser = min(row[place], row[place + 1])
    # Between the two rows it has one more or one fewer ahead, so just one floor of either side tells them apart.
    ahead = taller_among(row[:place], lesser)
    behind = taller_among(row[place + 2:], lesser)
    return (ahead + 1, behind + 1)


def floors_above(floors, taller):
    """How many of these floors see one who has so many taller ones in front."""
    return len([floor for floor in floors if taller < floor])
