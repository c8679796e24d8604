"""The lots of a box: its rows fall into them, and within each all rows are led to one another."""

from balconyrow.boxes import how_many, row_at
from balconyrow.errors import TooMany
from balconyrow.limits import MOST_LOTS
from balconyrow.places import places
from balconyrow.walls import as_ahead, as_behind, box_settled, lot_box, rest_of, whole_crew


def lots_many(box):
    """Into how many lots the rows of the box fall."""
    return many_within(whole_crew(box))


def lots(box):
    """The list of all lot_boxes, by the least numbers of rows in them; refused with TooMany."""
    many = lots_many(box)
    if many > MOST_LOTS:
        raise TooMany(many)
    found = [box_settled(members) for members in lots_within(whole_crew(box))]
    return sorted(found, key=least_code)


def first_of_lot(box, row):
    """The row of its lot that has the least number; refused with Outside."""
    # Numbers follow the codes, in the box as in the lot.
    return row_at(lot_box(box, row), 0)


def lot_size(box, row):
    """How many rows are in its lot; refused with Outside."""
    return how_many(lot_box(box, row))


def movers(box, row):
    """The rising list of those who can come to another place; refused with Outside."""
    lot = lot_box(box, row)
    return [who for who, least, greatest in lot[::-1] if len(places(lot, who)) > 1]


def many_within(crew):
    """How many lots a crew has."""
    rest = rest_of(crew)
    if not rest:
        return 1
    return sum([many_within(ahead) * many_within(behind) for ahead, behind in ways_round(rest)])


def lots_within(crew):
    """For each lot of a crew all members as walls.settled tells them, in no order."""
    rest = rest_of(crew)
    if not rest:
        return [crew]
    told = []
    for ahead, behind in ways_round(rest):
        firsts, seconds = lots_within(ahead), lots_within(behind)
        told.extend([crew[len(rest) - 1:] + first + second for first in firsts for second in seconds])
    return told


def ways_round(rest):
    """All pairs of crews, ahead of the wall and behind it, that some row has; the wall is the last of the rest."""
    most_ahead = rest[-1][1]
    most_behind = len(rest) - 1 - most_ahead
    ways = [([], [])]
    for member in rest[:-1]:
        longer = []
        for ahead, behind in ways:
            if len(ahead) < most_ahead and can_be_ahead(member, ahead):
                longer.append((ahead + [as_ahead(member, ahead)], behind))
            if len(behind) < most_behind and can_be_behind(member, ahead):
                longer.append((ahead, behind + [as_behind(member, ahead, behind)]))
        ways = longer
    return ways


def can_be_ahead(member, ahead):
    """Whether some number of its stretch is left to one when it comes to the crew ahead."""
    who, least, greatest, less = member
    return least <= len(ahead)


def can_be_behind(member, ahead):
    """Whether some number of its stretch is left to one when it comes to the crew behind."""
    who, least, greatest, less = member
    return greatest >= len(ahead)


def least_code(box):
    """The code of the row of a box that has the least number."""
    return tuple([least for who, least, greatest in box])
