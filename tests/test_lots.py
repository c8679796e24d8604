"""The lots of a box: [12], and promise (c) of [1]."""

import itertools
import math
import random
import time
import unittest

from balconyrow import lots as module
from balconyrow.boxes import how_many, is_box, is_in, number_of, row_at, whole_box
from balconyrow.errors import Outside, TooMany
from balconyrow.limits import MOST_LOTS
from balconyrow.lots import first_of_lot, lot_size, lots, lots_many, movers
from balconyrow.seen import box_seen
from balconyrow.walls import lot_box
from tests.common import (
    MANY, Asking, all_boxes, in_by_hand, lots_by_hand, rows_by_hand, some_boxes, swapped, walled_boxes)

FOLK = (9, 4, 1, 0, -2, -7)

# Two lots: 3 or 2 stands ahead of the 1 that can't be crossed.
SMALL = ((3, 0, 0), (2, 0, 1), (1, 1, 1))

# How many lots they have, and boxes.
ROUND_A_HUNDRED = (
    (99, ((9, 0, 0), (8, 0, 1), (7, 0, 2), (6, 1, 2), (5, 1, 3), (4, 1, 5), (3, 2, 2), (2, 3, 5), (1, 5, 5))),
    (100, ((9, 0, 0), (8, 0, 1), (7, 0, 2), (6, 0, 3), (5, 3, 3), (4, 0, 5), (3, 0, 6), (2, 2, 2), (1, 6, 6))),
    (101, ((9, 0, 0), (8, 0, 1), (7, 1, 2), (6, 0, 3), (5, 0, 4), (4, 0, 5), (3, 3, 3), (2, 0, 7), (1, 6, 6))),
    (210, ((9, 0, 0), (8, 0, 1), (7, 0, 2), (6, 0, 3), (5, 0, 4), (4, 0, 5), (3, 0, 6), (2, 3, 3), (1, 6, 6))),
)


def small_boxes():
    """All boxes of few folk, and some of more."""
    for many in range(1, 5):
        yield from all_boxes(FOLK[:many])
    yield from some_boxes(random.Random(30), FOLK[:5], 40)
    yield from walled_boxes(random.Random(31), FOLK[:5], 60)
    yield from walled_boxes(random.Random(32), FOLK, 15)


def with_a_wall(many, ahead):
    """All stretches are whole but the least one's, who always has just so many ahead: a lot for each choice of them."""
    return (*[(many - place, 0, place) for place in range(many - 1)], (1, ahead, ahead))


def parted(box):
    """The lots of a box, each as the list of its rows by their numbers, by their least numbers."""
    numbers = {row: number for number, row in enumerate(rows_by_hand(box))}
    unlike = {id(lot): sorted(lot, key=numbers.get) for lot in lots_by_hand(box).values()}
    return sorted(unlike.values(), key=lambda lot: numbers[lot[0]])


def box_by_hand(rows):
    """From the least to the greatest number that each one of these rows has ahead."""
    told = []
    for who in sorted(rows[0], reverse=True):
        ahead = [sum(other > who for other in row[:row.index(who)]) for row in rows]
        told.append((who, min(ahead), max(ahead)))
    return tuple(told)


def places_by_hand(rows, who):
    return {row.index(who) for row in rows}


def outside_told(box, row):
    try:
        number_of(box, row)
    except Outside as refusal:
        return refusal.who
    return None


class AgainstAllExchanges(Asking):
    def test_how_many_and_which(self):
        several = 0
        for box in small_boxes():
            wanted = parted(box)
            several += len(wanted) > 1
            self.assertEqual(lots_many(box), len(wanted), box)
            self.assertEqual(lots(box), [box_by_hand(lot) for lot in wanted], box)
        self.assertGreater(several, 60)

    def test_they_part_the_box(self):
        for box in small_boxes():
            found = lots(box)
            for lot in found:
                self.assertIs(is_box(lot), True, lot)
            self.assertEqual(sum(map(how_many, found)), how_many(box))
            for row in rows_by_hand(box)[::3]:
                self.assertEqual([lot for lot in found if is_in(lot, row)], [lot_box(box, row)])

    def test_of_a_row(self):
        for box in small_boxes():
            for lot in parted(box):
                wanted = sorted(who for who in lot[0] if len(places_by_hand(lot, who)) > 1)
                for row in lot[::5]:
                    self.assertEqual(first_of_lot(box, row), lot[0], (box, row))
                    self.assertEqual(lot_size(box, row), len(lot), (box, row))
                    self.assertEqual(movers(box, row), wanted, (box, row))

    def test_boxes_that_floors_leave(self):
        for houses in (((1,), (1,)), ((2,), (2,)), ((1, 3), (2,)), ((2, 3), (3,))):
            for row in list(itertools.permutations(FOLK[:5]))[::11]:
                box = box_seen(row, houses)
                wanted = parted(box)
                self.assertEqual(lots_many(box), len(wanted))
                self.assertEqual(lots(box), [box_by_hand(lot) for lot in wanted])


class AsWrittenOut(Asking):
    def test_two_lots(self):
        behind, ahead = ((3, 0, 0), (2, 0, 0), (1, 1, 1)), ((3, 0, 0), (2, 1, 1), (1, 1, 1))
        self.tells(lots_many, 2, box=SMALL)
        self.tells(lots, [behind, ahead], box=SMALL)
        for row in ((3, 1, 2), (2, 1, 3)):
            self.tells(first_of_lot, row, box=SMALL, row=row)
            self.tells(lot_size, 1, box=SMALL, row=row)
            self.tells(movers, [], box=SMALL, row=row)

    def test_one_lot(self):
        box = ((3, 0, 0), (2, 0, 1), (1, 1, 2))
        self.tells(lots_many, 1, box=box)
        self.tells(lots, [box], box=box)
        for row in rows_by_hand(box):
            self.tells(first_of_lot, (2, 1, 3), box=box, row=row)
            self.tells(lot_size, 4, box=box, row=row)
            self.tells(movers, [1, 2, 3], box=box, row=row)

    def test_one_alone(self):
        box, row = ((7, 0, 0),), (7,)
        self.tells(lots_many, 1, box=box)
        self.tells(lots, [box], box=box)
        self.tells(first_of_lot, row, box=box, row=row)
        self.tells(lot_size, 1, box=box, row=row)
        self.tells(movers, [], box=box, row=row)

    def test_who_moves_with_one_number_alone(self):
        # The 1 has just one number, 0: it stands first. The 2 is passed by the 3 alone.
        box, row = ((4, 0, 0), (3, 0, 1), (2, 2, 2), (1, 0, 0)), (1, 3, 4, 2)
        self.tells(movers, [3, 4], box=box, row=row)
        # The 2 has just one number, 0, but the 1 passes it.
        box, row = ((4, 0, 0), (2, 0, 0), (1, 0, 1)), (1, 2, 4)
        self.tells(movers, [1, 2], box=box, row=row)

    def test_a_lot_for_each_choice(self):
        # The 1 has just one ahead: the 2 (then the 3 and the 4 change places behind it), the 4 or the 3.
        box = with_a_wall(4, 1)
        wanted = [
            ((4, 0, 0), (3, 0, 1), (2, 0, 0), (1, 1, 1)),
            ((4, 0, 0), (3, 0, 0), (2, 1, 2), (1, 1, 1)),
            ((4, 0, 0), (3, 1, 1), (2, 1, 2), (1, 1, 1)),
        ]
        self.tells(lots_many, 3, box=box)
        self.tells(lots, wanted, box=box)
        self.tells(first_of_lot, (2, 1, 3, 4), box=box, row=(2, 1, 4, 3))
        self.tells(lot_size, 2, box=box, row=(2, 1, 4, 3))
        self.tells(movers, [3, 4], box=box, row=(2, 1, 4, 3))


class TooManyLots(Asking):
    def test_just_a_hundred_and_one_more(self):
        self.assertEqual(MOST_LOTS, 100)
        for many, box in ROUND_A_HUNDRED:
            wanted = parted_by_steps(box)
            self.assertEqual(len(wanted), many)
            self.tells(lots_many, many, box=box)
            if many <= 100:
                self.tells(lots, [box_by_hand(lot) for lot in wanted], box=box)
            else:
                self.refused(lots, TooMany, "many", many, box=box)

    def test_a_wall_in_the_midst(self):
        for many in range(2, 12):
            for ahead in range(many):
                wanted = 1 if ahead in (0, many - 1) else math.comb(many - 1, ahead)
                box = with_a_wall(many, ahead)
                self.assertEqual(lots_many(box), wanted)
                if wanted <= 100:
                    self.assertEqual(len(lots(box)), wanted)
                else:
                    self.refused(lots, TooMany, "many", wanted, box=box)

    def test_greater_boxes_against_all_exchanges(self):
        chance = random.Random(34)
        for box in walled_boxes(chance, range(8, 0, -1), 40):
            if how_many(box) <= 600:
                wanted = parted_by_steps(box)
                self.assertEqual(lots_many(box), len(wanted))
                if len(wanted) <= 100:
                    self.assertEqual(lots(box), [box_by_hand(lot) for lot in wanted])


def parted_by_steps(box):
    """As parted, the rows of the box told by their numbers, as all orders of so many folk would be too many."""
    rows = [row_at(box, number) for number in range(how_many(box))]
    left = {row: None for row in rows}
    told = []
    for start in rows:
        if start not in left:
            continue
        del left[start]
        lot = [start]
        for row in lot:
            for other in (swapped(row, place) for place in range(len(row) - 1)):
                if other in left:
                    del left[other]
                    lot.append(other)
        told.append(lot)
    return told


class GoodTime(Asking):
    def test_nine_folk(self):
        chance = random.Random(35)
        folk = sorted(MANY, reverse=True)[:9]
        begin = time.perf_counter()
        for box in itertools.chain(
                walled_boxes(chance, folk, 200), some_boxes(chance, folk, 100),
                [with_a_wall(9, ahead) for ahead in range(9)], [whole_box(folk)]):
            many = lots_many(box)
            if many <= 100:
                self.assertEqual(len(lots(box)), many)
                self.assertEqual(sum(map(how_many, lots(box))), how_many(box))
        self.assertLess(time.perf_counter() - begin, 20)

    def test_24_folk(self):
        chance = random.Random(36)
        for box in walled_boxes(chance, sorted(MANY, reverse=True), 20):
            row = row_at(box, chance.randrange(how_many(box)))
            lot = lot_box(box, row)
            first = first_of_lot(box, row)
            self.assertEqual(number_of(lot, first), 0)
            self.assertLessEqual(number_of(box, first), number_of(box, row))
            self.assertEqual(lot_size(box, row), how_many(lot))
            moving = movers(box, row)
            self.assertEqual(moving, sorted(set(moving)))
            for _ in range(10):
                other = row_at(lot, chance.randrange(how_many(lot)))
                moved = [who for who in row if row.index(who) != other.index(who)]
                self.assertLessEqual(set(moved), set(moving))
        self.tells(lot_size, how_many(whole_box(MANY)), box=whole_box(MANY), row=MANY)
        self.tells(movers, sorted(MANY), box=whole_box(MANY), row=MANY)
        self.tells(first_of_lot, tuple(sorted(MANY)), box=whole_box(MANY), row=MANY)


class HandedIn(Asking):
    def test_however_it_is_asked(self):
        for box in itertools.islice(walled_boxes(random.Random(37), FOLK, 12), 12):
            wanted = parted(box)
            self.tells(lots_many, len(wanted), box=box)
            self.tells(lots, [box_by_hand(lot) for lot in wanted], box=box)
            for lot in wanted[:3]:
                moving = sorted(who for who in lot[0] if len(places_by_hand(lot, who)) > 1)
                self.tells(first_of_lot, lot[0], box=box, row=lot[-1])
                self.tells(lot_size, len(lot), box=box, row=lot[-1])
                self.tells(movers, moving, box=box, row=lot[-1])


class IsOutside(Asking):
    def test_of_any_row(self):
        box = ((9, 0, 0), (4, 1, 1), (0, 0, 1))
        refused = 0
        for row in [row for many in range(1, 5) for row in itertools.permutations((12, 9, 4, 0, -3), many)]:
            who = outside_told(box, row)
            self.assertEqual(who is None, in_by_hand(box, row))
            if who is not None:
                refused += 1
                for ask in (first_of_lot, lot_size, movers):
                    self.refused(ask, Outside, "who", who, box=box, row=row)
        self.assertGreater(refused, 100)

    def test_the_very_one(self):
        box = ((9, 0, 0), (4, 1, 1), (0, 0, 1))
        for row, who in (((4, 9, 0), 4), ((9, 4, 0), 0), ((7,), 9), ((9, 0, 4, 12), 12), ((12, 9, 0, 4), 9),
                         ((9, 0, 4, -5, -4), -4)):
            for ask in (first_of_lot, lot_size, movers):
                self.refused(ask, Outside, "who", who, box=box, row=row)


class Interface(Asking):
    def test_names_and_arguments(self):
        self.defined_in(module, {
            "lots_many": "box", "lots": "box", "first_of_lot": "box row", "lot_size": "box row", "movers": "box row"})


if __name__ == "__main__":
    unittest.main()
