"""Rows and houses as texts: words parted by one blank."""

from balconyrow.errors import BadText

FIGURES = "0123456789"
MOST_FIGURES = 10


def row_text(row):
    """The heights of the row."""
    return numbers_text(row)


def row_in(text):
    """The ROW whose text it is; refused with BadText."""
    row = []
    for at, word in enumerate(text.split(" ")):
        who = number_in(word)
        if who is None or who in row:
            raise BadText(at)
        row.append(who)
    return tuple(row)


def houses_text(houses):
    """Left floors, a colon, right floors."""
    left, right = houses
    return " ".join([str(floor) for floor in left] + [":"] + [str(floor) for floor in right])


def houses_in(text):
    """The HOUSES whose text it is; refused with BadText."""
    sides = [[]]
    words = text.split(" ")
    for at, word in enumerate(words):
        if word == ":" and len(sides) == 1:
            sides.append([])
            continue
        floor = number_in(word)
        if floor is None or floor <= max(sides[-1], default=0):
            raise BadText(at)
        sides[-1].append(floor)
    if len(sides) == 1:
        raise BadText(len(words))
    return (tuple(sides[0]), tuple(sides[1]))


def numbers_text(numbers):
    """Numbers by blanks."""
    return " ".join([str(number) for number in numbers])


def number_in(word):
    """The number that is so written; None where none is."""
    figures = word[1:] if word.startswith("-") else word
    # Asked ahead of int, which takes blanks, other figures and noughts ahead, and fails of very long words.
    if not 1 <= len(figures) <= MOST_FIGURES or not all([sign in FIGURES for sign in figures]):
        return None
    if figures[0] == "0" and word != "0":
        return None
    return int(word)
