"""Walls and lots: [10], and promises (b) and (c) of [1] so far as they speak of them."""

import itertools
import random
import unittest

from balconyrow import walls as module
from balconyrow.boxes import how_many, is_box, is_in, number_of, row_at, whole_box
from balconyrow.errors import Outside
from balconyrow.walls import lot_box, shows_kept, walls
from tests.common import (
    MANY, THINGS, Asking, ahead_by_hand, all_boxes, as_lists, by_turns, in_by_hand, lots_by_hand, rows_by_hand,
    some_boxes, walled_boxes, walls_by_hand)

FOLK = (9, 4, 1, 0, -2, -7)

# Walls among walls, gone through on paper: box, row, WALLS, lot_box.
WRITTEN = (
    (((7, 0, 0),), (7,), (), ((7, 0, 0),)),
    (((3, 0, 0), (2, 0, 1), (1, 0, 0)), (1, 2, 3), (), ((3, 0, 0), (2, 0, 1), (1, 0, 0))),
    (((3, 0, 0), (2, 0, 1), (1, 2, 2)), (3, 2, 1), (), ((3, 0, 0), (2, 0, 1), (1, 2, 2))),
    (((3, 0, 0), (2, 0, 1), (1, 1, 1)), (3, 1, 2), (1, (3,), (), ()), ((3, 0, 0), (2, 1, 1), (1, 1, 1))),
    (((3, 0, 0), (2, 0, 1), (1, 1, 1)), (2, 1, 3), (1, (2,), (), ()), ((3, 0, 0), (2, 0, 0), (1, 1, 1))),
    (((10, 0, 0), (9, 0, 1), (8, 1, 1), (7, 1, 1), (6, 3, 3), (5, 4, 4), (4, 2, 6), (3, 4, 4), (2, 4, 4), (1, 6, 6)),
     (10, 7, 4, 8, 2, 3, 1, 6, 5, 9),
     (1, (2, 3, 4, 7, 8, 10), (2, (4, 7, 8, 10), (7, (10,), (), ()), ()), (5, (6,), (), ())),
     ((10, 0, 0), (9, 1, 1), (8, 1, 1), (7, 1, 1), (6, 3, 3), (5, 4, 4), (4, 2, 3), (3, 4, 4), (2, 4, 4), (1, 6, 6))),
    (((10, 0, 0), (9, 1, 1), (8, 1, 1), (7, 1, 1), (6, 3, 3), (5, 1, 1), (4, 1, 1), (3, 4, 4), (2, 3, 3), (1, 5, 6)),
     (10, 4, 5, 2, 7, 3, 1, 8, 6, 9),
     (2, (4, 5, 10), (4, (10,), (), ()), (3, (7,), (), (6, (8,), (), ()))),
     ((10, 0, 0), (9, 1, 1), (8, 1, 1), (7, 1, 1), (6, 3, 3), (5, 1, 1), (4, 1, 1), (3, 4, 4), (2, 3, 3), (1, 5, 6))),
)


def small_boxes():
    """All boxes of few folk, and some of more."""
    for many in range(1, 5):
        yield from all_boxes(FOLK[:many])
    yield from some_boxes(random.Random(10), FOLK[:5], 40)
    yield from walled_boxes(random.Random(11), FOLK[:5], 60)
    yield from walled_boxes(random.Random(12), FOLK, 15)


def rows_by_chance(chance, boxes, many):
    for box in boxes:
        for _ in range(many):
            yield box, row_at(box, chance.randrange(how_many(box)))


def deepest(walls):
    return 1 + max(deepest(walls[2]), deepest(walls[3])) if walls else 0


def outside_told(box, row):
    try:
        number_of(box, row)
    except Outside as refusal:
        return refusal.who
    return None


class Walls(Asking):
    def test_as_written_out(self):
        for box, row, wanted, _ in WRITTEN:
            self.tells(walls, wanted, box=box, row=row)

    def test_small_boxes_by_hand(self):
        for box in small_boxes():
            for row in rows_by_hand(box)[::2]:
                self.assertEqual(walls(box, row), walls_by_hand(box, row), (box, row))

    def test_greater_boxes_by_hand(self):
        chance = random.Random(13)
        folk = sorted(MANY, reverse=True)
        boxes = itertools.chain(walled_boxes(chance, folk[:12], 150), walled_boxes(chance, folk, 60),
                                some_boxes(chance, folk, 30))
        depth = 0
        for box, row in rows_by_chance(chance, boxes, 3):
            wanted = walls_by_hand(box, row)
            depth = max(depth, deepest(wanted))
            self.assertEqual(walls(box, row), wanted, (box, row))
        self.assertGreater(depth, 4)

    def test_no_walls(self):
        for row in ((7,), (1, 2), (4, 9, 0), MANY):
            self.tells(walls, (), box=whole_box(row), row=row)

    def test_walls_far_down(self):
        # Ahead of each wall stands the next one, with one behind it: 200 11 111 10 110 .. 1 101.
        row = (200,)
        wanted = ()
        for who in range(11, 0, -1):
            wanted = (who, tuple(sorted(row)), wanted, ())
            row += (who, 100 + who)
        ahead = ahead_by_hand(row)
        box = tuple((who, ahead[who], ahead[who]) for who in sorted(row, reverse=True))
        self.tells(walls, wanted, box=box, row=row)
        self.tells(lot_box, box, box=box, row=row)
        self.tells(shows_kept, True, box=box, row=row, thing=wanted)
        self.tells(shows_kept, False, box=box, row=row, thing=as_lists(wanted))
        self.tells(shows_kept, False, box=box, row=row, thing=wanted[2])


class ShowsKept(Asking):
    def test_just_the_walls(self):
        for box, row, wanted, _ in WRITTEN:
            self.tells(shows_kept, True, box=box, row=row, thing=wanted)
            for thing in THINGS:
                self.tells(shows_kept, wanted == () and thing == (), box=box, row=row, thing=thing)

    def test_lists_for_tuples(self):
        for box, row, wanted, _ in WRITTEN:
            for thing in (as_lists(wanted), by_turns(wanted), list(wanted)):
                self.tells(shows_kept, False, box=box, row=row, thing=thing)
            if wanted:
                who, ahead, left, right = wanted
                for thing in ((who, list(ahead), left, right), (who, ahead, list(left), right),
                              (who, ahead, left, list(right)), [who, ahead, left, right]):
                    self.tells(shows_kept, False, box=box, row=row, thing=thing)

    def test_a_part_too_many_or_too_few_or_another(self):
        for box, row, wanted, _ in WRITTEN:
            if not wanted:
                continue
            who, ahead, left, right = wanted
            for thing in ((), (who,), wanted[:3], (*wanted, ()), (wanted,), (who + 1, ahead, left, right),
                          (who, ahead[1:], left, right), (who, (*ahead, 99), left, right), (who, (), left, right),
                          (who, ahead, left, None), (who, ahead, None, right), (who, ahead, left, (0, (), (), ())),
                          (who, ahead, (0, (), (), ()), right), (who, None, left, right), (None, ahead, left, right),
                          (str(who), ahead, left, right), (who, ahead, left, right, right)):
                self.tells(shows_kept, False, box=box, row=row, thing=thing)
            if len(ahead) > 1:
                self.tells(shows_kept, False, box=box, row=row, thing=(who, ahead[::-1], left, right))

    def test_true_and_false_are_no_numbers(self):
        box, row = ((4, 0, 0), (1, 0, 1), (0, 1, 1)), (1, 0, 4)
        self.tells(shows_kept, True, box=box, row=row, thing=(0, (1,), (), ()))
        self.tells(shows_kept, False, box=box, row=row, thing=(False, (1,), (), ()))
        self.tells(shows_kept, False, box=box, row=row, thing=(0, (True,), (), ()))
        box, row = ((4, 0, 0), (2, 0, 1), (1, 1, 1)), (2, 1, 4)
        self.tells(shows_kept, True, box=box, row=row, thing=(1, (2,), (), ()))
        self.tells(shows_kept, False, box=box, row=row, thing=(True, (2,), (), ()))

    def test_the_walls_of_another_row(self):
        for box in itertools.islice(walled_boxes(random.Random(14), FOLK, 40), 40):
            rows = rows_by_hand(box)
            for one, other in itertools.product(rows[:3], rows[-3:]):
                same = walls_by_hand(box, one) == walls_by_hand(box, other)
                self.assertIs(shows_kept(box, one, walls_by_hand(box, other)), same)


class LotBox(Asking):
    def test_as_written_out(self):
        for box, row, _, wanted in WRITTEN:
            self.tells(lot_box, wanted, box=box, row=row)

    def test_just_the_rows_that_exchanges_lead_to(self):
        for box in small_boxes():
            lots = lots_by_hand(box)
            for row in lots:
                lot = lots[row]
                found = lot_box(box, row)
                self.assertIs(is_box(found), True, found)
                if row == lot[0]:
                    self.assertEqual(sorted(rows_by_hand(found)), sorted(lot), (box, row))
                self.assertEqual(found, lot_box(box, lot[0]), (box, row))

    def test_a_lot_is_one_lot(self):
        chance = random.Random(15)
        for box, row in rows_by_chance(chance, walled_boxes(chance, sorted(MANY, reverse=True), 30), 2):
            lot = lot_box(box, row)
            self.assertIs(is_in(lot, row), True)
            self.assertEqual(lot_box(lot, row), lot)
            for _ in range(3):
                other = row_at(lot, chance.randrange(how_many(lot)))
                self.assertIs(is_in(box, other), True)
                self.assertEqual(lot_box(box, other), lot)

    def test_the_whole_box_is_one_lot(self):
        self.tells(lot_box, whole_box(MANY), box=whole_box(MANY), row=MANY)


class IsOutside(Asking):
    def test_of_any_row(self):
        box = ((9, 0, 0), (4, 1, 1), (0, 0, 1))
        for row in [row for many in range(1, 5) for row in itertools.permutations((12, 9, 4, 0, -3), many)]:
            who = outside_told(box, row)
            self.assertEqual(who is None, in_by_hand(box, row))
            if who is not None:
                self.refused(walls, Outside, "who", who, box=box, row=row)
                self.refused(lot_box, Outside, "who", who, box=box, row=row)
                self.refused(shows_kept, Outside, "who", who, box=box, row=row, thing=())

    def test_whatever_thing_is(self):
        box, row = ((9, 0, 0), (4, 1, 1), (0, 0, 1)), (0, 4, 9)
        for thing in THINGS:
            self.refused(shows_kept, Outside, "who", 4, box=box, row=row, thing=thing)


class Interface(Asking):
    def test_names_and_arguments(self):
        self.defined_in(module, {"walls": "box row", "shows_kept": "box row thing", "lot_box": "box row"})


if __name__ == "__main__":
    unittest.main()
