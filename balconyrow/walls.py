"""The walls of a row in a box, and the lot of rows to which it is led.

A crew is a list of (who, least, greatest, less), heights falling: less is by how much the numbers of who were made less
on the way from the box to the crew.
"""

from balconyrow.boxes import refuse_outside
from balconyrow.kinds import is_just


def walls(box, row):
    """The WALLS; refused with Outside."""
    refuse_outside(box, row)
    return walls_within(whole_crew(box), row)


def shows_kept(box, row, thing):
    """Whether a thing is just the WALLS; refused with Outside."""
    return is_just(thing, walls(box, row))


def lot_box(box, row):
    """The BOX of all rows to which the row is led, itself too; refused with Outside."""
    refuse_outside(box, row)
    return box_settled(settled(whole_crew(box), row))


def walls_within(crew, row):
    """The WALLS of a crew."""
    rest = rest_of(crew)
    if not rest:
        return ()
    ahead, behind = crews_round(rest, row)
    names = tuple([who for who, least, greatest, less in ahead[::-1]])
    return (rest[-1][0], names, walls_within(ahead, row), walls_within(behind, row))


def settled(crew, row):
    """Each one as it is in the crew in which it's left out or a wall, told in no order."""
    rest = rest_of(crew)
    if not rest:
        return crew
    ahead, behind = crews_round(rest, row)
    return crew[len(rest) - 1:] + settled(ahead, row) + settled(behind, row)


def box_settled(members):
    """The BOX of members told in no order, with all by which their numbers were made less put on again."""
    stretches = [(who, least + less, greatest + less) for who, least, greatest, less in members]
    return tuple(sorted(stretches, reverse=True))


def whole_crew(box):
    """All of a box."""
    return [(who, least, greatest, 0) for who, least, greatest in box]


def rest_of(crew):
    """What stays of a crew when all are left out, from the least on, who can be: its least one is a wall."""
    many = len(crew)
    while many > 0 and can_be_left_out(crew[many - 1], many - 1):
        many -= 1
    return crew[:many]


def can_be_left_out(member, others):
    """Whether the least of a crew, with so many others in it, is no wall."""
    who, least, greatest, less = member
    # One who always stands at an end, or can step aside, lets all others pass.
    return least < greatest or least == 0 or least == others


def crews_round(rest, row):
    """The crews ahead of the wall and behind it, which is the last of the rest."""
    ahead, behind = [], []
    before = row[:row.index(rest[-1][0])]
    for member in rest[:-1]:
        if member[0] in before:
            ahead.append(as_ahead(member, ahead))
        else:
            behind.append(as_behind(member, ahead, behind))
    return ahead, behind


def as_ahead(member, ahead):
    """The next shorter one as it is in the crew ahead, of which all who are there by then are taller."""
    who, least, greatest, less = member
    return (who, least, min(greatest, len(ahead)), less)


def as_behind(member, ahead, behind):
    """The next shorter one as it is in the crew behind; all who are in either crew by then are taller."""
    who, least, greatest, less = member
    over = len(ahead)
    return (who, max(least - over, 0), min(greatest - over, len(behind)), less + over)
