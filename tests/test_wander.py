"""Wandering in a box: [9], with [2] and [3] so far as they speak of it."""

import itertools
import random
import unittest

from balconyrow import wander as module
from balconyrow.boxes import is_in, number_of, whole_box
from balconyrow.errors import Held, NoPlace, Outside
from balconyrow.houses import told_by
from balconyrow.rows import exchanged
from balconyrow.seen import box_seen
from balconyrow.wander import changed, changed_all, may_change
from tests.common import MANY, Asking, all_boxes, in_by_hand, rows_by_hand, seen_by_hand, some_boxes, swapped

FOLK = (9, 4, 1, 0, -2)

BOX = ((9, 0, 0), (4, 0, 1), (1, 1, 2), (0, 1, 1))


def small_boxes():
    """All boxes of few folk, and some of more."""
    for many in range(1, 5):
        yield from all_boxes(FOLK[:many])
    yield from some_boxes(random.Random(9), FOLK, 30)


def may_by_hand(box, row):
    return [place for place in range(len(row) - 1) if in_by_hand(box, swapped(row, place))]


class MayChange(Asking):
    def test_each_place_by_a_look_of_its_own(self):
        for box in small_boxes():
            for row in rows_by_hand(box):
                self.assertEqual(may_change(box, row), may_by_hand(box, row), (box, row))

    def test_however_it_is_asked(self):
        for row in rows_by_hand(BOX):
            self.tells(may_change, may_by_hand(BOX, row), box=BOX, row=row)
        self.tells(may_change, [], box=((7, 0, 0),), row=(7,))
        self.tells(may_change, list(range(23)), box=whole_box(MANY), row=MANY)

    def test_as_written_out(self):
        self.tells(may_change, [], box=((9, 0, 0), (4, 0, 1), (0, 1, 1)), row=(4, 0, 9))
        self.tells(may_change, [0, 1], box=((9, 0, 0), (4, 0, 1), (0, 1, 2)), row=(9, 4, 0))
        self.tells(may_change, [1], box=((9, 0, 0), (4, 0, 1), (0, 1, 2)), row=(9, 0, 4))


class Changed(Asking):
    def test_each_place_by_a_look_of_its_own(self):
        for box in small_boxes():
            for row in rows_by_hand(box):
                for place in range(len(row) - 1):
                    wanted = swapped(row, place)
                    if in_by_hand(box, wanted):
                        self.assertEqual(changed(box, row, place), wanted)
                        continue
                    with self.assertRaises(Held) as caught:
                        changed(box, row, place)
                    self.assertEqual(caught.exception.who, min(row[place], row[place + 1]), (box, row))

    def test_however_it_is_asked(self):
        box = ((9, 0, 0), (4, 0, 1), (0, 1, 2))
        self.tells(changed, (9, 0, 4), box=box, row=(9, 4, 0), place=1)
        self.tells(changed, (4, 9, 0), box=box, row=(9, 4, 0), place=0)
        self.refused(changed, Held, "who", 0, box=box, row=(9, 0, 4), place=0)
        self.refused(changed, Held, "who", 4, box=((9, 0, 0), (4, 1, 1)), row=(9, 4), place=0)

    def test_no_place(self):
        for box, row in ((BOX, rows_by_hand(BOX)[0]), (((7, 0, 0),), (7,)), (whole_box(MANY), MANY)):
            last = len(row) - 1
            for place in (-1, -2, -len(row), -10 ** 5000, last, last + 1, 99, 10 ** 5000):
                self.refused(changed, NoPlace, "place", place, box=box, row=row, place=place)


class ChangedAll(Asking):
    def test_a_bare_list(self):
        for row in rows_by_hand(BOX):
            self.tells(changed_all, row, box=BOX, row=row, places=[])

    def test_wandering_by_chance(self):
        chance = random.Random(90)
        for box in small_boxes():
            rows = rows_by_hand(box)
            row = start = chance.choice(rows)
            steps = []
            for _ in range(8):
                free = may_by_hand(box, row)
                if free:
                    steps.append(chance.choice(free))
                    row = swapped(row, steps[-1])
            self.assertEqual(changed_all(box, start, steps), row)

    def test_refused_as_the_first_that_is(self):
        chance = random.Random(91)
        refusals = {NoPlace: 0, Held: 0, None: 0}
        for box in small_boxes():
            row = start = chance.choice(rows_by_hand(box))
            steps = [chance.randrange(-1, len(row)) for _ in range(4)]
            refusal, field, value = None, None, None
            for place in steps:
                if not 0 <= place < len(row) - 1:
                    refusal, field, value = NoPlace, "place", place
                    break
                if not in_by_hand(box, swapped(row, place)):
                    refusal, field, value = Held, "who", min(row[place], row[place + 1])
                    break
                row = swapped(row, place)
            refusals[refusal] += 1
            if refusal is None:
                self.tells(changed_all, row, box=box, row=start, places=steps)
            else:
                self.refused(changed_all, refusal, field, value, box=box, row=start, places=steps)
        self.assertTrue(min(refusals.values()) > 0, refusals)

    def test_which_of_two_goes(self):
        box = ((9, 0, 0), (4, 0, 1), (0, 1, 2))
        self.refused(changed_all, Held, "who", 0, box=box, row=(9, 4, 0), places=[1, 0, 7])
        self.refused(changed_all, NoPlace, "place", 7, box=box, row=(9, 4, 0), places=[1, 7, 0])
        self.refused(changed_all, NoPlace, "place", -1, box=box, row=(9, 4, 0), places=[1, 1, 1, -1])

    def test_many_exchanges_in_good_time(self):
        box = whole_box(MANY)
        steps = [place % 23 for place in range(4000)]
        row = MANY
        for place in steps:
            row = swapped(row, place)
        self.tells(changed_all, row, box=box, row=MANY, places=steps)
        self.tells(changed_all, MANY, box=box, row=row, places=steps[::-1])


class IsOutside(Asking):
    def test_of_any_row(self):
        box = ((9, 0, 0), (4, 1, 1), (0, 0, 1))
        rows = [row for many in range(1, 5) for row in itertools.permutations((12, 9, 4, 0, -3), many)]
        for row in rows:
            if in_by_hand(box, row):
                continue
            with self.assertRaises(Outside) as caught:
                number_of(box, row)
            who = caught.exception.who
            self.refused(may_change, Outside, "who", who, box=box, row=row)
            self.refused(changed, Outside, "who", who, box=box, row=row, place=0)
            self.refused(changed_all, Outside, "who", who, box=box, row=row, places=[])

    def test_it_goes_first(self):
        box = ((9, 0, 0), (4, 1, 1), (0, 0, 0))
        # Behind the exchange at place 0 the row would be in the box.
        self.refused(changed, Outside, "who", 0, box=box, row=(9, 0, 4), place=0)
        for place in (-1, 0, 1, 2, 99):
            self.refused(changed, Outside, "who", 4, box=box, row=(4, 9, 0), place=place)
            self.refused(changed_all, Outside, "who", 4, box=box, row=(4, 9, 0), places=[place, 0])


class Unseen(unittest.TestCase):
    def test_what_nobody_sees_is_what_may_be_changed(self):
        for houses in (((), ()), ((1,), ()), ((2,), (1,)), ((1, 3), (2,)), ((), (1, 2, 3)), ((4,), (99,))):
            for row in itertools.permutations(FOLK):
                unseen = [place for place in range(4) if told_by(row, houses, place) == []]
                self.assertEqual(may_change(box_seen(row, houses), row), unseen, (row, houses))


class AlongAWay(unittest.TestCase):
    """Ways of unseen exchanges: at each row of them, told_by, may_change, is_in and changed say the same."""

    def go_along(self, chance, row, houses):
        box, seen = box_seen(row, houses), seen_by_hand(row, houses)
        for _ in range(30):
            quiet = may_change(box, row)
            for place in range(len(row) - 1):
                other = exchanged(row, place)
                self.assertIs(is_in(box, other), place in quiet)
                self.assertEqual(told_by(row, houses, place) == [], place in quiet)
            if not quiet:
                return
            place = chance.choice(quiet)
            after = changed(box, row, place)
            self.assertEqual(changed(box, after, place), row)
            row = after
        self.assertEqual(seen_by_hand(row, houses), seen)

    def test_up_to_16_folk_with_up_to_8_floors(self):
        chance = random.Random(16)
        for _ in range(60):
            row = tuple(chance.sample(range(100), chance.randint(2, 16)))
            houses = tuple(tuple(sorted(chance.sample(range(1, 17), chance.randint(0, 8)))) for _ in range(2))
            self.go_along(chance, row, houses)

    def test_16_folk_with_8_floors_on_both_sides(self):
        row = (3, 14, 1, 15, 9, 2, 6, 5, 16, 8, 7, 4, 12, 10, 11, 13)
        houses = (tuple(range(1, 9)),) * 2
        for place in range(15):
            before, after = seen_by_hand(row, houses), seen_by_hand(swapped(row, place), houses)
            wanted = [(side, floor) for side, old, new in zip(("left", "right"), before, after)
                      for floor, one, other in zip(range(1, 9), old, new) if one != other]
            self.assertEqual(told_by(row, houses, place), wanted)
        self.go_along(random.Random(17), row, houses)


class Interface(Asking):
    def test_names_and_arguments(self):
        self.defined_in(module, {"may_change": "box row", "changed": "box row place", "changed_all": "box row places"})


if __name__ == "__main__":
    unittest.main()
