"""The boxes that floors leave: [7], and promise (a) of [1], so far as it speaks of what floors see."""

import itertools
import math
import unittest

from balconyrow import seen as module
from balconyrow.boxes import how_many, is_box, is_in, number_of, row_at, whole_box
from balconyrow.errors import NoView
from balconyrow.houses import views
from balconyrow.seen import alike, box_of, box_seen
from tests.common import MANY, Asking, ahead_by_hand, rows_by_hand

FOLK = (9, 4, 0, -2, -7)

HOUSES = (
    ((), ()), ((1,), ()), ((), (1,)), ((1,), (1,)), ((2,), (1, 3)), ((1, 3), (2,)), ((), (1, 2, 4)), ((2, 4), ()),
    ((1, 2, 3, 4), (1, 2, 3, 4)), ((2, 99), (99,)))


def no_view_by_hand(folk, houses, seen):
    """The tallest one whom no number of taller ones ahead lets be seen so; None where there's none such."""
    for taller, who in enumerate(sorted(folk, reverse=True)):
        fits = [
            ahead for ahead in range(taller + 1)
            if all((ahead < floor) == (who in some) for floor, some in zip(houses[0], seen[0]))
            and all((taller - ahead < floor) == (who in some) for floor, some in zip(houses[1], seen[1]))]
        if not fits:
            return who
    return None


class BoxSeen(Asking):
    def test_just_the_rows_with_these_views(self):
        for many in range(1, 6):
            orders = list(itertools.permutations(FOLK[:many]))
            for houses in HOUSES:
                told = {row: views(row, houses) for row in orders}
                for row in orders[::3]:
                    box = box_seen(row, houses)
                    self.assertIs(is_box(box), True)
                    wanted = {other for other in orders if told[other] == told[row]}
                    self.assertEqual(set(rows_by_hand(box)), wanted, (row, houses))
                    self.assertEqual(box_of(row, houses, told[row]), box)

    def test_however_it_is_asked(self):
        box = ((9, 0, 0), (4, 1, 1), (0, 1, 2), (-2, 0, 0))
        self.tells(box_seen, box, row=(-2, 9, 4, 0), houses=((1,), (2,)))
        self.tells(box_seen, ((7, 0, 0),), row=(7,), houses=((1,), (2,)))
        self.tells(box_seen, whole_box(MANY), row=MANY, houses=((), ()))

    def test_many_folk_in_good_time(self):
        floors = tuple(range(1, 100))
        ahead = ahead_by_hand(MANY)
        one_row = tuple((who, ahead[who], ahead[who]) for who in sorted(MANY, reverse=True))
        for houses in ((floors, ()), ((), floors), (floors, floors)):
            self.tells(box_seen, one_row, row=MANY, houses=houses)
        box = box_seen(MANY, ((3,), (5,)))
        many = how_many(box)
        self.assertEqual(many, math.prod(greatest - least + 1 for _, least, greatest in box))
        self.assertIs(is_in(box, MANY), True)
        for number in (0, number_of(box, MANY), many - 1):
            self.assertEqual(views(row_at(box, number), ((3,), (5,))), views(MANY, ((3,), (5,))))


class BoxOf(Asking):
    def test_folk_in_any_order(self):
        wanted = ((9, 0, 0), (4, 1, 1), (0, 0, 0))
        for folk in itertools.permutations((9, 4, 0)):
            self.tells(box_of, wanted, folk=folk, houses=((1,), (1,)), views=(((0, 9),), ((4, 9),)))
        self.tells(box_of, whole_box(MANY), folk=MANY, houses=((), ()), views=((), ()))
        self.tells(box_of, ((7, 0, 0),), folk=(7,), houses=((), (99,)), views=((), ((7,),)))

    def test_all_views_that_there_can_be(self):
        folk = (6, 3, 1)
        some = [chosen for many in range(4) for chosen in itertools.combinations((1, 3, 6), many)]
        told, refused = 0, 0
        for houses in (((1,), ()), ((), (2,)), ((2,), (1,)), ((1, 2), ()), ((), (1, 3)), ((4,), ()), ((), (99,))):
            left, right = len(houses[0]), len(houses[1])
            for chosen in itertools.product(some, repeat=left + right):
                seen = (chosen[:left], chosen[left:])
                who = no_view_by_hand(folk, houses, seen)
                wanted = [row for row in itertools.permutations(folk) if views(row, houses) == seen]
                self.assertEqual(who is None, wanted != [])
                if who is None:
                    told += 1
                    box = box_of(folk, houses, seen)
                    self.assertIs(is_box(box), True)
                    self.assertEqual(sorted(rows_by_hand(box)), sorted(wanted))
                else:
                    refused += 1
                    self.refused(box_of, NoView, "who", who, folk=folk, houses=houses, views=seen)
        self.assertTrue(told > 10 and refused > 10)

    def test_no_view_of_the_tallest_such_one(self):
        # The tallest is seen by each floor; of the others each left floor above those below it sees some, too.
        self.refused(box_of, NoView, "who", 9, folk=(0, 9, 4), houses=((1,), ()), views=(((4,),), ()))
        self.refused(box_of, NoView, "who", 9, folk=(0, 9, 4), houses=((1,), ()), views=(((),), ()))
        self.refused(box_of, NoView, "who", 4, folk=(0, 9, 4), houses=((2,), ()), views=(((9,),), ()))
        self.refused(box_of, NoView, "who", 4, folk=(0, 9, 4), houses=((), (2,)), views=((), ((0, 9),)))
        self.refused(box_of, NoView, "who", 0, folk=(0, 9, 4), houses=((), (3,)), views=((), ((4, 9),)))
        # Seen by a lower floor, but not by one above it.
        self.refused(box_of, NoView, "who", 4, folk=(0, 9, 4), houses=((1, 2), ()), views=(((4, 9), (0, 9)), ()))
        # From both sides: 4 is ahead of 9 for the left, behind it for the right.
        self.refused(box_of, NoView, "who", 4, folk=(4, 9), houses=((1,), (1,)), views=(((9,),), ((9,),)))
        self.tells(box_of, ((9, 0, 0), (4, 0, 0)), folk=(4, 9), houses=((1,), (1,)), views=(((4, 9),), ((9,),)))

    def test_what_was_told_may_be_handed_in_again(self):
        for row in itertools.permutations((9, 4, 0, -2)):
            for houses in HOUSES:
                box = box_of(row, houses, views(row, houses))
                self.assertEqual(box, box_seen(row, houses))
                self.assertIs(is_in(box, row), True)


class Alike(Asking):
    def test_all_orders(self):
        orders = list(itertools.permutations((9, 4, 0, -2)))
        for houses in HOUSES:
            for one, other in itertools.product(orders[::2], orders[::5]):
                self.assertIs(alike(one, other, houses), views(one, houses) == views(other, houses))
                self.assertIs(alike(one, other, houses), is_in(box_seen(one, houses), other))

    def test_however_it_is_asked(self):
        houses = ((1,), ())
        self.tells(alike, True, one=(9, 4, 0), other=(9, 0, 4), houses=houses)
        self.tells(alike, True, one=(9, 4, 0), other=(9, 4, 0), houses=houses)
        self.tells(alike, False, one=(9, 4, 0), other=(4, 9, 0), houses=houses)
        self.tells(alike, False, one=(9, 4, 0), other=(9, 0, 4), houses=((), (1,)))
        self.tells(alike, True, one=MANY, other=MANY[::-1], houses=((), ()))

    def test_other_folk(self):
        # Where no floor is, or where none sees the other ones, views alone don't tell.
        self.tells(alike, False, one=(9, 4), other=(9, 3), houses=((), ()))
        self.tells(alike, False, one=(9, 4), other=(9, 3), houses=((1,), ()))
        self.tells(alike, False, one=(9, 4), other=(9,), houses=((1,), ()))
        self.tells(alike, False, one=(9,), other=(9, 4), houses=((1,), ()))
        self.tells(alike, False, one=(9,), other=(8,), houses=((), (1,)))


class Interface(Asking):
    def test_names_and_arguments(self):
        self.defined_in(module, {
            "box_of": "folk houses views", "box_seen": "row houses", "alike": "one other houses"})


if __name__ == "__main__":
    unittest.main()
