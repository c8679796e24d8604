"""Rows of folk, who are called by their unlike heights, and the codes of rows."""

from balconyrow.errors import NoOne, NoPlace
from balconyrow.kinds import are_numbers


def is_row(thing):
    """Whether a thing is a ROW: a tuple of unlike numbers, one at least."""
    if not is_tuple_of_numbers(thing):
        return False
    return len(set(thing)) == len(thing)


def is_code(thing):
    """Whether a thing is a CODE: a tuple of numbers, the one at place m from 0 to m, one at least."""
    if not is_tuple_of_numbers(thing):
        return False
    return all([0 <= ahead <= place for place, ahead in enumerate(thing)])


def folk_of(row):
    """All of the row, from the tallest on."""
    return tuple(sorted(row, reverse=True))


def taller_ahead(row, who):
    """How many taller ones who has ahead; refused with NoOne."""
    return taller_among(row[:place_of(row, who)], who)


def taller_behind(row, who):
    """How many taller ones who has behind; refused with NoOne."""
    return taller_among(row[place_of(row, who):], who)


def code_of(row):
    """How many taller ones each has ahead, from the tallest one on."""
    ahead = all_taller_ahead(row)
    return tuple([ahead[who] for who in folk_of(row)])


def row_of(folk, code):
    """The ROW of these folk, told from the tallest on, that has this code."""
    row = []
    # All who stand there already are taller, so the number of taller ones ahead is the place itself;
    # the shorter ones who come later change nobody's number.
    for who, ahead in zip(folk, code):
        row.insert(ahead, who)
    return tuple(row)


def turned(row):
    """The ROW the other way about."""
    return tuple(row[::-1])


def exchanged(row, place):
    """The ROW with those at place and place + 1 exchanged; refused with NoPlace."""
    refuse_no_pair(row, place)
    heights = list(row)
    heights[place], heights[place + 1] = heights[place + 1], heights[place]
    return tuple(heights)


def is_tuple_of_numbers(thing):
    """Whether a thing is a tuple of numbers, one at least."""
    return isinstance(thing, tuple) and len(thing) > 0 and are_numbers(thing)


def place_of(row, who):
    """The place at which who stands; refused with NoOne."""
    if who not in row:
        raise NoOne(who)
    return row.index(who)


def refuse_no_pair(row, place):
    """Refused with NoPlace where there aren't two, at place and place + 1."""
    if not 0 <= place < len(row) - 1:
        raise NoPlace(place)


def all_taller_ahead(row):
    """For each one of the row how many taller ones it has ahead."""
    ahead = {}
    falling = []
    for who in row:
        # Where it belongs among those ahead, the tallest of them first, is how many of them are taller.
        low, high = 0, len(falling)
        while low < high:
            middle = (low + high) // 2
            if falling[middle] > who:
                low = middle + 1
            else:
                high = middle
        falling.insert(low, who)
        ahead[who] = low
    return ahead


def taller_among(folk, who):
    """How many of these folk are taller than who."""
    return len([one for one in folk if one > who])
