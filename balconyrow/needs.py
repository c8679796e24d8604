"""Needs: the fewest floors by which a row is known, or by which no two neighbours change places unseen.

Needs are the edges between left floors and right ones; floors that meet them all cover the edges, and needs apart are a
matching, kept as a dict from each right to its left.
"""

from balconyrow.houses import is_houses, tellers
from balconyrow.kinds import are_numbers
from balconyrow.rows import taller_ahead, taller_behind


def needs_to_know(row):
    """The rising list of NEEDS that just the HOUSES meet by which no other row has the same VIEWS."""
    needs = []
    for who in row:
        ahead, behind = taller_ahead(row, who), taller_behind(row, who)
        # Each one's stretch is its own number alone where both its neighbours are told apart from it.
        if behind > 0:
            needs.append((ahead + 1, behind))
        if ahead > 0:
            needs.append((ahead, behind + 1))
    # None stands there twice: its numbers add up to one more than the taller ones whom who has on both sides.
    return sorted(needs)


def needs_to_watch(row):
    """The rising list of NEEDS that just the HOUSES meet by which no two neighbours can change places unseen."""
    return sorted([tellers(row, place) for place in range(len(row) - 1)])


def unmet(needs, houses):
    """The list of those needs that aren't met, in their order."""
    left, right = houses
    return [(one, other) for one, other in needs if one not in left and other not in right]


def fewest(needs):
    """How many floors, on both sides together, meet all needs at the fewest."""
    return len(matching(rights_by_left(needs)))


def floors_for(needs):
    """HOUSES of the fewest floors that meet all needs."""
    rights_of = rights_by_left(needs)
    lefts, rights = reached(rights_of, matching(rights_of))
    # By Koenig these are just as many as the matching has: one end of each of its needs.
    return (tuple([left for left in sorted(rights_of) if left not in lefts]), tuple(sorted(rights)))


def apart(needs):
    """A list of as many of the needs as fewest tells, no two with the same left, nor with the same right."""
    mates = matching(rights_by_left(needs))
    return sorted([(left, right) for right, left in mates.items()])


def shows_floors(needs, thing):
    """Whether a thing is HOUSES that meet all needs, fewest or not."""
    return is_houses(thing) and unmet(needs, thing) == []


def shows_apart(needs, thing):
    """Whether a thing is a list of some of the needs, no two with the same left or the same right."""
    if not isinstance(thing, list) or not all([is_pair(part) for part in thing]):
        return False
    pairs = [(left, right) for left, right in needs]
    if not all([part in pairs for part in thing]):
        return False
    return all([len(set([part[side] for part in thing])) == len(thing) for side in (0, 1)])


def is_pair(thing):
    """Whether a thing is a tuple of two numbers."""
    return isinstance(thing, tuple) and len(thing) == 2 and are_numbers(thing)


def rights_by_left(needs):
    """For each left of the needs the list of its rights."""
    rights_of = {}
    for left, right in needs:
        rights_of.setdefault(left, []).append(right)
    return rights_of


def matching(rights_of):
    """A greatest matching."""
    mates = {}
    for left in rights_of:
        widen(rights_of, mates, left)
    return mates


def widen(rights_of, mates, start):
    """The matching gets a need more, where one can be had so that start has a mate, too."""
    came = {}
    waiting = [(start, None)]
    while waiting:
        left, former = waiting.pop()
        for right in rights_of[left]:
            if right in came:
                continue
            came[right] = (left, former)
            if right not in mates:
                match_back(mates, came, right)
                return
            waiting.append((mates[right], right))


def match_back(mates, came, free):
    """Each left on the way to a free right gives up its former right for the one that it came to."""
    right = free
    while right is not None:
        left, former = came[right]
        mates[right] = left
        right = former


def reached(rights_of, mates):
    """All lefts and all rights to which ways lead from lefts without a mate, there by any need, back to mates alone."""
    matched = list(mates.values())
    waiting = [one for one in rights_of if one not in matched]
    lefts, rights = {one: True for one in waiting}, {}
    while waiting:
        left = waiting.pop()
        for right in rights_of[left]:
            if right not in rights:
                rights[right] = True
                lefts[mates[right]] = True
                waiting.append(mates[right])
    return lefts, rights
