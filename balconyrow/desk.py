"""A desk: a sheet of rows, the first of which begins a gallery; each other one is answered by a text."""

from balconyrow.boxes import is_in
from balconyrow.errors import BadRow, BadText, Known, Last, NoFloor, NoOne, NoPlace, Seen, Stands
from balconyrow.gallery import Gallery
from balconyrow.houses import SIDES
from balconyrow.lots import lot_size, lots_many, movers
from balconyrow.needs import fewest, needs_to_know, needs_to_watch
from balconyrow.texts import houses_text, number_in, numbers_text, row_in, row_text

MOST_FOLK = 12
MOST_FOLK_OF_LOTS = 9
GREATEST = 99

# What stands behind a word; sneak and to, behind which any number of parts may stand, are read by themselves.
PARTS = {
    "change": ("place",), "come": ("who", "place"), "go": ("who",), "build": ("side", "floor"),
    "pull": ("side", "floor"), "undo": (), "row": (), "floors": (), "may": (), "lots": (), "size": (), "movers": (),
    "know": (), "watch": ()}


def answers(text):
    """The list of what is answered to each row but the first; refused with BadRow ahead of all answers."""
    first, *others = text.split("\n")
    gallery = Gallery(row_at_first(first))
    asked = [deed_in(row, number) for number, row in enumerate(others, start=1)]
    told = []
    for word, parts in asked:
        told.append(answer(gallery, word, parts))
    return told


def row_at_first(text):
    """The ROW with which a sheet begins; refused with BadRow."""
    word, blank, rest = text.partition(" ")
    try:
        row = row_in(rest)
    except BadText:
        raise BadRow(0) from None
    if word != "row" or len(row) > MOST_FOLK:
        raise BadRow(0)
    return row


def deed_in(text, number):
    """The word of a row of the sheet and the list of its parts; refused with BadRow."""
    word, *words = text.split(" ")
    parts = parts_in(word, words)
    if parts is None:
        raise BadRow(number)
    return word, parts


def parts_in(word, words):
    """The parts that are so written behind a word, as values; None where they aren't, or there's no such word."""
    if word == "to":
        return whole_row_in(words)
    kinds = ["place"] * max(1, len(words)) if word == "sneak" else PARTS.get(word)
    if kinds is None or len(kinds) != len(words):
        return None
    found = [part_in(kind, part) for kind, part in zip(kinds, words)]
    return None if None in found else found


def whole_row_in(words):
    """The list of heights whose ROW's text these words are; None where they are none."""
    try:
        return list(row_in(" ".join(words)))
    except BadText:
        return None


def part_in(kind, text):
    """One part as a value; None where it is not so written."""
    if kind == "side":
        return text if text in SIDES else None
    number = number_in(text)
    if number is None or kind == "who":
        return number
    least = 1 if kind == "floor" else 0
    return number if least <= number <= GREATEST else None


def answer(gallery, word, parts):
    """What is answered to one row."""
    action = ANSWERS[word]
    try:
        return action(gallery, parts)
    except Known:
        return "refused Known"
    except NoPlace:
        return "refused NoPlace"
    except NoOne:
        return "refused NoOne"
    except Last:
        return "refused Last"
    except Stands:
        return "refused Stands"
    except NoFloor:
        return "refused NoFloor"
    except Seen:
        return "refused Seen"


def some_numbers(numbers):
    """Numbers by blanks, a stroke of none."""
    return numbers_text(numbers) if numbers else "-"


def change_told(gallery, parts):
    told = gallery.change(parts[0])
    return "; ".join([f"{side} {floor}" for side, floor in told]) if told else "unseen"


def come_told(gallery, parts):
    who, place = parts
    return some_numbers(gallery.come(who, place=place))


def go_told(gallery, parts):
    return some_numbers(gallery.go(parts[0]))


def build_told(gallery, parts):
    side, floor = parts
    return some_numbers(gallery.build(side, floor))


def pull_told(gallery, parts):
    side, floor = parts
    gallery.pull(side, floor)
    return "done"


def sneak_told(gallery, parts):
    gallery.sneak(parts)
    return "done"


def undo_told(gallery, parts):
    return "yes" if gallery.undo() else "no"


def row_told(gallery, parts):
    return row_text(gallery.row())


def floors_told(gallery, parts):
    return houses_text(gallery.houses())


def may_told(gallery, parts):
    return some_numbers(gallery.may())


def lots_told(gallery, parts):
    return str(lots_many(gallery.box())) if len(gallery.row()) <= MOST_FOLK_OF_LOTS else "many"


def size_told(gallery, parts):
    return str(lot_size(gallery.box(), gallery.row()))


def movers_told(gallery, parts):
    return some_numbers(movers(gallery.box(), gallery.row()))


def know_told(gallery, parts):
    return str(fewest(needs_to_know(gallery.row())))


def watch_told(gallery, parts):
    return str(fewest(needs_to_watch(gallery.row())))


def to_told(gallery, parts):
    if not is_in(gallery.box(), parts):
        return "seen"
    return "led" if gallery.may_be(parts) else "barred"


ANSWERS = {
    "change": change_told, "come": come_told, "go": go_told, "build": build_told, "pull": pull_told,
    "sneak": sneak_told, "undo": undo_told, "row": row_told, "floors": floors_told, "may": may_told,
    "lots": lots_told, "size": size_told, "movers": movers_told, "know": know_told, "watch": watch_told,
    "to": to_told}
