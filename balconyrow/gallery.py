"""A gallery: a row and the houses at its ends, kept over deeds that can be undone."""

from balconyrow.boxes import is_in
from balconyrow.coming import gone, seen_otherwise, with_newcomer
from balconyrow.errors import NoDeed, NoFloor, NoSide, Seen, Stands
from balconyrow.houses import SIDES, seen_by_all, told_by
from balconyrow.led import leads
from balconyrow.rows import exchanged
from balconyrow.seen import box_seen
from balconyrow.walls import lot_box, walls_within, whole_crew
from balconyrow.wander import may_change


class Gallery:
    """All that stood one behind the other is kept: the first row and houses, and those behind each deed."""

    def __init__(self, row, *, houses=((), ())):
        left, right = houses
        self.past = [(tuple(row), (tuple(left), tuple(right)))]
        self.notes = []

    def change(self, place):
        """Those at place and place + 1 are exchanged: told is who tells it; refused with NoPlace."""
        self.notes.append(("in", "change"))
        try:
            told = told_by(self.row(), self.houses(), place)
            self.keep(exchanged(self.row(), place), self.houses())
            return told
        finally:
            self.notes.append(("out", "change"))

    def come(self, who, *, place):
        """A newcomer: told is the list of those who are seen otherwise; refused with Known, NoPlace."""
        self.notes.append(("in", "come"))
        try:
            told = seen_otherwise(self.row(), self.houses(), who, place=place)
            self.keep(with_newcomer(self.row(), who, place), self.houses())
            return told
        finally:
            self.notes.append(("out", "come"))

    def go(self, who):
        """That one goes: told is the list of those who are seen otherwise; refused with NoOne, Last."""
        self.notes.append(("in", "go"))
        try:
            after = gone(self.row(), who)
            # Whom floors see otherwise without one, they would see otherwise with it again.
            told = seen_otherwise(after, self.houses(), who, place=self.row().index(who))
            self.keep(after, self.houses())
            return told
        finally:
            self.notes.append(("out", "go"))

    def build(self, side, floor):
        """One floor more: told is the rising tuple of whom it sees; refused with NoSide, Stands."""
        self.notes.append(("in", "build"))
        try:
            floors = floors_at(self.houses(), side)
            if floor in floors:
                raise Stands(floor)
            self.keep(self.row(), with_floors(self.houses(), side, tuple(sorted([*floors, floor]))))
            return seen_from(self.row(), side, floor)
        finally:
            self.notes.append(("out", "build"))

    def pull(self, side, floor):
        """The floor is gone; refused with NoSide, NoFloor."""
        self.notes.append(("in", "pull"))
        try:
            floors = floors_at(self.houses(), side)
            if floor not in floors:
                raise NoFloor(floor)
            left = tuple([one for one in floors if one != floor])
            self.keep(self.row(), with_floors(self.houses(), side, left))
        finally:
            self.notes.append(("out", "pull"))

    def sneak(self, places):
        """Unseen exchanges, one behind the other as one deed; refused with NoPlace, Seen by the first that is."""
        self.notes.append(("in", "sneak"))
        try:
            row = self.row()
            for place in places:
                if told_by(row, self.houses(), place):
                    raise Seen(place)
                row = exchanged(row, place)
            self.keep(row, self.houses())
        finally:
            self.notes.append(("out", "sneak"))

    def undo(self):
        """The last deed that stands is as if it had never been; told is whether there was one."""
        self.notes.append(("in", "undo"))
        try:
            stands = self.deeds() > 0
            if stands:
                self.past.pop()
            return stands
        finally:
            self.notes.append(("out", "undo"))

    def keep(self, row, houses):
        """A deed is done, behind which these stand."""
        self.past.append((row, houses))

    def row(self):
        """The ROW."""
        return self.past[-1][0]

    def houses(self):
        """The HOUSES."""
        return self.past[-1][1]

    def views(self):
        """The VIEWS."""
        return seen_by_all(self.row(), self.houses())

    def box(self):
        """The BOX of all rows with the same VIEWS."""
        return box_seen(self.row(), self.houses())

    def walls(self):
        """The WALLS of the row in that box."""
        return walls_within(whole_crew(self.box()), self.row())

    def lot(self):
        """The BOX of all rows to which the row is led unseen."""
        return lot_box(self.box(), self.row())

    def may(self):
        """The rising list of places that may be exchanged unseen."""
        return may_change(self.box(), self.row())

    def may_be(self, other):
        """Whether other is led to from the row unseen."""
        box = self.box()
        return is_in(box, other) and leads(box, self.row(), other)

    def deeds(self):
        """How many deeds stand."""
        return len(self.past) - 1

    def as_of(self, many):
        """A Gallery of its own as behind the first so many deeds that stand, its log bare; refused with NoDeed."""
        if not 0 <= many <= self.deeds():
            raise NoDeed(many)
        row, houses = self.past[many]
        other = Gallery(row, houses=houses)
        other.past = self.past[:many + 1]
        return other

    def twin(self):
        """A Gallery of its own as behind all deeds that stand."""
        return self.as_of(self.deeds())

    def log(self):
        """Of each deed, refused or not, ("in", word) as it began and ("out", word) as it ended."""
        return list(self.notes)

    def __eq__(self, other):
        return isinstance(other, Gallery) and self.row() == other.row() and self.houses() == other.houses()

    def __len__(self):
        return len(self.row())

    def __repr__(self):
        return f"Gallery({len(self.row())} folk, {floors_many(self.houses())} floors)"


def floors_at(houses, side):
    """The floors of a side; refused with NoSide."""
    if side not in SIDES:
        raise NoSide(side)
    return houses[SIDES.index(side)]


def with_floors(houses, side, floors):
    """The HOUSES with these floors at that side, the other one as it was."""
    return tuple([floors if name == side else old for name, old in zip(SIDES, houses)])


def seen_from(row, side, floor):
    """The rising tuple of those whom that floor of that side sees."""
    seen = seen_by_all(row, with_floors(((), ()), side, (floor,)))
    return seen[SIDES.index(side)][0]


def floors_many(houses):
    """How many floors there are on both sides."""
    return sum([len(floors) for floors in houses])
