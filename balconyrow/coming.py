"""Who comes to a row and who goes, and which of the others floors see otherwise then."""

from balconyrow.errors import Known, Last, NoOne, NoPlace
from balconyrow.houses import seen_by


def come(row, who, *, place):
    """The ROW with a newcomer of that height at that place; refused with Known, NoPlace."""
    return with_newcomer(row, who, place)


def gone(row, who):
    """The ROW without that one; refused with NoOne, Last."""
    if who not in row:
        raise NoOne(who)
    if len(row) == 1:
        raise Last()
    return tuple([one for one in row if one != who])


def seen_otherwise(row, houses, who, *, place):
    """The rising list of those of the row whom floors see otherwise when the newcomer comes there; refused as come."""
    after = with_newcomer(row, who, place)
    # The floors that see one are the uppermost ones of a side, so how many they are tells which.
    return [one for one in sorted(row) if seen_by(row, houses, one) != seen_by(after, houses, one)]


def quiet_places(row, houses, who):
    """The rising list of places at which the newcomer has nobody seen otherwise; refused with Known."""
    refuse_known(row, who)
    return [place for place in range(len(row) + 1) if seen_otherwise(row, houses, who, place=place) == []]


def with_newcomer(row, who, place):
    """What come tells, under a name that a file can import in which a method is called come."""
    refuse_known(row, who)
    if not 0 <= place <= len(row):
        raise NoPlace(place)
    heights = list(row)
    heights.insert(place, who)
    return tuple(heights)


def refuse_known(row, who):
    """Refused with Known where one of that height is there."""
    if who in row:
        raise Known(who)
