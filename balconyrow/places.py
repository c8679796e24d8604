"""Where one may stand in the rows of a box, and who surely stands ahead of whom."""

from balconyrow.boxes import folk_in
from balconyrow.errors import NoOne, NoPlace


def places(box, who):
    """The rising list of all places at which who stands in some row in the box; refused with NoOne."""
    folk = folk_in(box)
    if who not in folk:
        raise NoOne(who)
    at = folk.index(who)
    spots = first_spots(box[at])
    for part in box[at + 1:]:
        spots = next_spots(spots, part)
    return spots


def surely_ahead(box):
    """The rising list of pairs (one, other) such that one stands ahead of other in all rows in the box."""
    sure = []
    for at, part in enumerate(box):
        sure.extend(sure_of(part, box[at + 1:]))
    return sorted(sure)


def who_may(box, place):
    """The rising list of those who stand at that place in some row in the box; refused with NoPlace."""
    if not 0 <= place < len(box):
        raise NoPlace(place)
    return [who for who in folk_in(box)[::-1] if place in places(box, who)]


def first_spots(part):
    """The places that one may have among the taller ones alone."""
    who, least, greatest = part
    return list(range(least, greatest + 1))


def next_spots(spots, part):
    """The places that one may have when the next shorter one has come, who stands where its own stretch lets it."""
    who, least, greatest = part
    still = [spot for spot in spots if spot < greatest]
    pushed = [spot + 1 for spot in spots if least <= spot]
    return sorted(set(still + pushed))


def sure_of(part, shorter):
    """The pairs, told in no order, of one and of those shorter whose order with it is sure."""
    one = part[0]
    sure = []
    # Who comes later is shorter, and changes nothing about the order of those who stand there.
    spots = first_spots(part)
    for other, least, greatest in shorter:
        if max(spots) < least:
            sure.append((one, other))
        elif greatest <= min(spots):
            sure.append((other, one))
        spots = next_spots(spots, (other, least, greatest))
    return sure
