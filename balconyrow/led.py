"""Which rows of a box are led to one another, by a road, or kept apart by a bar."""

from balconyrow.boxes import refuse_outside
from balconyrow.errors import Barred, Held, NoPlace
from balconyrow.kinds import are_numbers, is_just
from balconyrow.rows import taller_ahead
from balconyrow.walls import crews_round, rest_of, walls, whole_crew
from balconyrow.wander import changed_all


def leads(box, one, other):
    """Whether some exchanges within the box lead from one to other; refused with Outside."""
    return bar(box, one, other) is None


def bar(box, one, other):
    """The first wall of one, with those ahead of it, that has others ahead in other's; None where there's none such.

    Refused with Outside.
    """
    return first_unlike(walls(box, one), walls(box, other))


def shows_bar(box, one, other, thing):
    """Whether a thing is a wall of one's, with those ahead of it, that other's are without; refused with Outside."""
    mine = walls_told(walls(box, one))
    its = walls_told(walls(box, other))
    return any([is_just(thing, wall) for wall in mine if wall not in its])


def road(box, one, other):
    """A list of places which, exchanged one behind the other, lead there; refused with Outside, Barred."""
    barred = bar(box, one, other)
    if barred is not None:
        raise Barred(barred[0])
    return road_of_crew(whole_crew(box), one, other)


def shows_road(box, one, other, thing):
    """Whether a thing is a list of places that leads there within the box; refused with Outside."""
    refuse_outside(box, one)
    refuse_outside(box, other)
    if not isinstance(thing, list) or not are_numbers(thing):
        return False
    try:
        return changed_all(box, one, thing) == tuple(other)
    except (NoPlace, Held):
        return False


def first_unlike(mine, its):
    """The first wall of mine, with those ahead of it, that has others ahead in its; None where all are the same."""
    if mine == its:
        return None
    who, ahead, left, right = mine
    # While all walls round it are the same, who is a wall in both.
    if ahead != its[1]:
        return (who, ahead)
    found = first_unlike(left, its[2])
    if found is not None:
        return found
    return first_unlike(right, its[3])


def walls_told(some):
    """Each wall with those ahead of it, of WALLS gone through."""
    if not some:
        return []
    who, ahead, left, right = some
    return [(who, ahead)] + walls_told(left) + walls_told(right)


def road_of_crew(crew, one, other):
    """The places, counted within the crew, that lead it from how it stands in one to how it stands in other."""
    rest = rest_of(crew)
    steps = road_of_rest(rest, one, other)
    for who, least, greatest, less in crew[len(rest):]:
        start = taller_ahead(one, who) - less
        goal = taller_ahead(other, who) - less
        steps = road_with(steps, start, goal, least, greatest)
    return steps


def road_of_rest(rest, one, other):
    """Likewise of what stays of a crew: its wall stands still, and nobody passes it."""
    if not rest:
        return []
    ahead, behind = crews_round(rest, one)
    further = len(ahead) + 1
    return road_of_crew(ahead, one, other) + [further + place for place in road_of_crew(behind, one, other)]


def road_with(steps, start, goal, least, greatest):
    """The steps of a crew with one more, shorter than all of it, who has start of them ahead, and goal in the end."""
    told = []
    ahead = start
    for place in steps:
        # Who stands between the two steps aside; with one number alone it stands at an end, so never there.
        if ahead == place + 1:
            aside = ahead - 1 if ahead > least else ahead + 1
            told.extend(walk(ahead, aside))
            ahead = aside
        told.append(place + 1 if ahead <= place else place)
    told.extend(walk(ahead, goal))
    return told


def walk(start, goal):
    """The places at which one who has start of a crew ahead is exchanged till it has goal of them ahead."""
    if start <= goal:
        return list(range(start, goal))
    return list(range(start - 1, goal - 1, -1))
