"""Houses and what their floors see: [5], with [2] and [3] so far as they speak of them."""

import itertools
import unittest

from balconyrow import houses as module
from balconyrow.errors import NoOne, NoPlace
from balconyrow.houses import is_houses, seen_by, told_by, views
from tests.common import MANY, THINGS, Asking, as_lists, by_turns, swapped

ROWS = ((7,), (-3,), (1, 2), (2, 1), (3, 1, 2), (2, 3, 1), (4, 8, 6, 1, 9), (5, 4, 3, 2, 1), (1, 2, 3, 4, 5),
        (3, -6, 0, 7, 2, 5))

HOUSES = (
    ((), ()), ((1,), ()), ((), (1,)), ((1,), (1,)), ((2,), (1, 3)), ((1, 2, 3), (2,)), ((), (1, 2, 3, 4, 5, 6)),
    ((1, 2, 3, 4, 5), ()), ((5,), (4,)), ((2, 99), (99,)), ((7, 8, 99), ()), ((), (50, 99)),
    (tuple(range(1, 100)), tuple(range(1, 100))))


def sees(row, side, floor, who):
    """Whether a floor sees one, by a count of the taller ones between them."""
    place = row.index(who)
    between = row[:place] if side == "left" else row[place + 1:]
    return sum(one > who for one in between) < floor


def views_by_hand(row, houses):
    return tuple(
        tuple(tuple(sorted(who for who in row if sees(row, side, floor, who))) for floor in floors)
        for side, floors in zip(("left", "right"), houses))


class IsHouses(unittest.TestCase):
    def test_houses(self):
        for houses in HOUSES:
            self.assertIs(is_houses(houses), True, houses)
        # The bounds aren't looked at.
        for houses in ((tuple(range(1, 300)), ()), ((1, 10 ** 5000), (100,))):
            self.assertIs(is_houses(houses), True)

    def test_by_its_name(self):
        self.assertIs(is_houses(thing=((1,), (2,))), True)
        self.assertIs(is_houses(thing=[(1,), (2,)]), False)

    def test_lists_at_any_depth(self):
        for thing in ([(), ()], ([], ()), ((), []), ([], []), [[], []], ([1], (2,)), ((1,), [2]), [(1,), (2,)]):
            self.assertIs(is_houses(thing), False, thing)
        for houses in HOUSES:
            self.assertIs(is_houses(as_lists(houses)), False, houses)
            self.assertIs(is_houses(by_turns(houses)), False, houses)
            self.assertIs(is_houses(by_turns(houses, False)), False, houses)

    def test_floors_that_stand_still_or_fall_or_lie_below_1(self):
        for floors in ((0,), (-1,), (-5,), (0, 1), (-1, 1, 2), (1, 1), (2, 1), (1, 2, 2), (1, 3, 2), (4, 4, 5),
                       (3, 2, 1), (1, 2, 0), (1, -2), (99, 98)):
            for houses in ((floors, ()), ((), floors), (floors, (1,)), ((2, 3), floors), (floors, floors)):
                self.assertIs(is_houses(houses), False, houses)

    def test_other_things_for_floors(self):
        for floors in ((True,), (False,), (None,), ("1",), ((1,),), ([1],), (1, True), (True, 2), (1, "2"), (1, None),
                       (1, (2,)), None, True, False, 1, 0, "", "1", "12", [], [1]):
            for houses in ((floors, ()), ((), floors), (floors, (1,)), ((2, 3), floors)):
                self.assertIs(is_houses(houses), False, houses)

    def test_a_part_too_many_or_too_few(self):
        for thing in ((), ((),), ((1,),), ((), (), ()), ((1,), (2,), (3,)), ((1,), (2,), None), (1, 2), (1,)):
            self.assertIs(is_houses(thing), False, thing)

    def test_anything_else(self):
        for thing in THINGS:
            self.assertIs(is_houses(thing), thing == ((), ()), thing)


class Views(Asking):
    def test_as_written_out(self):
        self.tells(views, (((4, 8, 9), (4, 6, 8, 9)), ((9,),)), row=(4, 8, 6, 1, 9), houses=((1, 2), (1,)))
        self.tells(views, (((3,), (1, 2, 3), (1, 2, 3)), ((2, 3),)), row=(3, 1, 2), houses=((1, 2, 3), (1,)))
        self.tells(views, ((), ()), row=(3, 1, 2), houses=((), ()))
        self.tells(views, (((7,),), ((7,), (7,))), row=(7,), houses=((1,), (1, 99)))

    def test_each_floor_by_hand(self):
        for row in ROWS:
            for houses in HOUSES:
                self.tells(views, views_by_hand(row, houses), row=row, houses=houses)

    def test_all_orders(self):
        houses = ((1, 2, 4), (1, 3))
        for row in itertools.permutations((9, 2, -4, 5)):
            self.assertEqual(views(row, houses), views_by_hand(row, houses))

    def test_the_greatest_there_is(self):
        houses = HOUSES[-1]
        self.assertEqual(views(MANY, houses), views_by_hand(MANY, houses))


class SeenBy(Asking):
    def test_as_written_out(self):
        for who, wanted in ((4, (2, 0)), (8, (2, 0)), (6, (1, 0)), (1, (0, 0)), (9, (2, 1))):
            self.tells(seen_by, wanted, row=(4, 8, 6, 1, 9), houses=((1, 2), (1,)), who=who)

    def test_each_by_hand(self):
        for row in ROWS:
            for houses in HOUSES:
                for who in row:
                    wanted = tuple(
                        sum(sees(row, side, floor, who) for floor in floors)
                        for side, floors in zip(("left", "right"), houses))
                    self.tells(seen_by, wanted, row=row, houses=houses, who=who)

    def test_no_one(self):
        for row in ROWS:
            for who in (10, -1, -7, 10 ** 9 + 1, 10 ** 5000, -10 ** 5000):
                for houses in HOUSES[:5]:
                    self.refused(seen_by, NoOne, "who", who, row=row, houses=houses, who=who)


class ToldBy(Asking):
    def test_as_written_out(self):
        row = (4, 8, 6, 1, 9)
        for place, wanted in (
                (0, [("left", 1), ("right", 3)]), (1, [("left", 1), ("right", 2)]),
                (2, [("left", 3), ("right", 2)]), (3, [("right", 1)])):
            self.tells(told_by, wanted, row=row, houses=((1, 2, 3), (1, 2, 3)), place=place)
            self.tells(told_by, [], row=row, houses=((), ()), place=place)

    def test_each_place_by_hand(self):
        for row in ROWS:
            for houses in HOUSES:
                for place in range(len(row) - 1):
                    before, after = views_by_hand(row, houses), views_by_hand(swapped(row, place), houses)
                    wanted = sorted(
                        (name, floor) for side, name in enumerate(("left", "right"))
                        for at, floor in enumerate(houses[side]) if before[side][at] != after[side][at])
                    self.tells(told_by, wanted, row=row, houses=houses, place=place)

    def test_all_that_changes_is_the_lesser_one(self):
        for row in itertools.permutations((9, 2, -4, 5)):
            for place in range(3):
                lesser = min(row[place], row[place + 1])
                for side, floor in told_by(row, HOUSES[-1], place):
                    self.assertNotEqual(
                        sees(row, side, floor, lesser), sees(swapped(row, place), side, floor, lesser))

    def test_no_place(self):
        for row in ROWS:
            last = len(row) - 1
            for place in (-1, -2, -len(row), -10 ** 5000, last, last + 1, 99, 10 ** 5000):
                for houses in HOUSES[:5]:
                    self.refused(told_by, NoPlace, "place", place, row=row, houses=houses, place=place)


class Interface(Asking):
    def test_names_and_arguments(self):
        self.defined_in(module, {
            "is_houses": "thing", "views": "row houses", "seen_by": "row houses who", "told_by": "row houses place"})


if __name__ == "__main__":
    unittest.main()
