"""Where one may stand, and who surely stands ahead of whom: [8], and promise (a) of [1] so far as it speaks of it."""

import itertools
import random
import unittest

from balconyrow import places as module
from balconyrow.boxes import how_many, row_at, whole_box
from balconyrow.errors import NoOne, NoPlace
from balconyrow.places import places, surely_ahead, who_may
from tests.common import MANY, Asking, ahead_by_hand, all_boxes, rows_by_hand, some_boxes

FOLK = (9, 4, 1, 0, -2, -7)

BOXES = (
    ((7, 0, 0),), ((2, 0, 0), (1, 0, 1)), ((2, 0, 0), (1, 1, 1)), ((9, 0, 0), (4, 0, 1), (0, 1, 1)),
    ((9, 0, 0), (4, 0, 1), (0, 0, 2), (-2, 1, 2)), ((9, 0, 0), (4, 1, 1), (0, 0, 1), (-2, 3, 3), (-7, 1, 3)))


def small_boxes():
    """All boxes of few folk, and some of more."""
    for many in range(1, 5):
        yield from all_boxes(FOLK[:many])
    yield from some_boxes(random.Random(8), FOLK[:5], 60)
    yield from some_boxes(random.Random(9), FOLK, 10)


def one_row_box(row):
    ahead = ahead_by_hand(row)
    return tuple((who, ahead[who], ahead[who]) for who in sorted(row, reverse=True))


def places_by_hand(rows, who):
    return sorted({row.index(who) for row in rows})


def sure_by_hand(rows):
    pairs = itertools.permutations(sorted(rows[0]), 2)
    return [(one, other) for one, other in pairs if all(row.index(one) < row.index(other) for row in rows)]


def may_by_hand(rows, place):
    return sorted({row[place] for row in rows})


class AgainstAllRows(Asking):
    def test_small_boxes(self):
        for box in small_boxes():
            rows = rows_by_hand(box)
            for who, _, _ in box:
                self.assertEqual(places(box, who), places_by_hand(rows, who), (box, who))
            self.assertEqual(surely_ahead(box), sure_by_hand(rows), box)
            for place in range(len(box)):
                self.assertEqual(who_may(box, place), may_by_hand(rows, place), (box, place))

    def test_however_it_is_asked(self):
        for box in BOXES:
            rows = rows_by_hand(box)
            self.tells(surely_ahead, sure_by_hand(rows), box=box)
            for place, (who, _, _) in enumerate(box):
                self.tells(places, places_by_hand(rows, who), box=box, who=who)
                self.tells(who_may, may_by_hand(rows, place), box=box, place=place)

    def test_as_written_out(self):
        # Its two rows are 4 0 9 and 9 0 4.
        box = ((9, 0, 0), (4, 0, 1), (0, 1, 1))
        self.tells(places, [0, 2], box=box, who=9)
        self.tells(places, [0, 2], box=box, who=4)
        self.tells(places, [1], box=box, who=0)
        self.tells(surely_ahead, [], box=box)
        self.tells(who_may, [4, 9], box=box, place=0)
        self.tells(who_may, [0], box=box, place=1)
        self.tells(surely_ahead, [(1, 0), (1, 9), (4, 0), (4, 1), (4, 9), (9, 0)],
                   box=((9, 0, 0), (4, 0, 0), (1, 1, 1), (0, 3, 3)))


class OneRowAlone(Asking):
    def test_all_pairs_are_sure(self):
        for row in ((7,), (1, 2), (2, 1), (4, 9, 0, -2), MANY):
            box = one_row_box(row)
            self.tells(surely_ahead, sorted(itertools.combinations(row, 2)), box=box)
            for place, who in enumerate(row):
                self.tells(places, [place], box=box, who=who)
                self.tells(who_may, [who], box=box, place=place)


class AllOrders(Asking):
    def test_none_is_sure(self):
        for row in ((7,), (1, 2), (4, 9, 0, -2), MANY):
            box = whole_box(row)
            self.tells(surely_ahead, [], box=box)
            for place, who in enumerate(row):
                self.tells(places, list(range(len(row))), box=box, who=who)
                self.tells(who_may, sorted(row), box=box, place=place)


class ManyFolk(unittest.TestCase):
    def test_rows_by_chance_are_told_of(self):
        chance = random.Random(3)
        for box in some_boxes(chance, sorted(MANY, reverse=True), 12):
            rows = [row_at(box, chance.randrange(how_many(box))) for _ in range(20)]
            spots = {who: places(box, who) for who in MANY}
            for row in rows:
                for place, who in enumerate(row):
                    self.assertIn(place, spots[who])
            for place in range(24):
                self.assertEqual(who_may(box, place), sorted(who for who in MANY if place in spots[who]))
            sure = surely_ahead(box)
            self.assertEqual(sure, sorted(set(sure)))
            for one, other in sure:
                self.assertTrue(all(row.index(one) < row.index(other) for row in rows))


class Refusals(Asking):
    def test_no_one(self):
        for box in BOXES:
            for who in (10, 3, -1, -8, 10 ** 9 + 1, 10 ** 5000, -10 ** 5000):
                self.refused(places, NoOne, "who", who, box=box, who=who)

    def test_no_place(self):
        for box in (*BOXES, whole_box(MANY)):
            many = len(box)
            for place in (-1, -2, -many, -many - 1, many, many + 1, 99, 10 ** 5000, -10 ** 5000):
                self.refused(who_may, NoPlace, "place", place, box=box, place=place)


class Interface(Asking):
    def test_names_and_arguments(self):
        self.defined_in(module, {"places": "box who", "surely_ahead": "box", "who_may": "box place"})


if __name__ == "__main__":
    unittest.main()
