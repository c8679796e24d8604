"""Boxes, and their rows by numbers: [6], with [1], [2] and [3] so far as they speak of them."""

import itertools
import math
import random
import unittest

from balconyrow import boxes as module
from balconyrow.boxes import all_in, both, how_many, is_box, is_in, number_of, row_at, whole_box
from balconyrow.errors import NoRow, Outside, TooMany, Unlike
from balconyrow.limits import MOST_ROWS
from tests.common import (
    MANY, SHORTEST, TALLEST, THINGS, Asking, ahead_by_hand, all_boxes, as_lists, by_turns, in_by_hand, rows_by_hand,
    some_boxes)

FOLK = (9, 4, 0, -2, -7)

BOXES = (
    ((7, 0, 0),), ((2, 0, 0), (1, 0, 1)), ((2, 0, 0), (1, 1, 1)), ((9, 0, 0), (4, 0, 1), (0, 1, 1)),
    ((9, 0, 0), (4, 0, 1), (0, 0, 2), (-2, 1, 2)), ((9, 0, 0), (4, 1, 1), (0, 0, 1), (-2, 3, 3), (-7, 1, 3)))

WIDE = tuple((who, 0, place) for place, who in enumerate(sorted(MANY, reverse=True)))


def small_boxes():
    """All boxes of few folk, and some of more."""
    for many in range(1, 5):
        yield from all_boxes(FOLK[:many])
    yield from some_boxes(random.Random(6), FOLK, 40)


def outside_by_hand(box, row):
    """The one whom [6] names where the row is not in the box."""
    ahead = ahead_by_hand(row)
    wrong = [who for who, least, greatest in box if who not in row or not least <= ahead[who] <= greatest]
    strange = [who for who in row if who not in [one for one, _, _ in box]]
    return max(wrong) if wrong else max(strange)


class IsBox(unittest.TestCase):
    def test_boxes(self):
        for box in (*small_boxes(), *BOXES, WIDE, ((TALLEST, 0, 0), (SHORTEST, 1, 1))):
            self.assertIs(is_box(box), True, box)
        # The bounds aren't looked at.
        wide = tuple((-place, 0, place) for place in range(40))
        for box in (wide, ((10 ** 5000, 0, 0), (-10 ** 5000, 0, 1))):
            self.assertIs(is_box(box), True)

    def test_by_its_name(self):
        self.assertIs(is_box(thing=((1, 0, 0),)), True)
        self.assertIs(is_box(thing=[(1, 0, 0)]), False)

    def test_lists_at_any_depth(self):
        for box in BOXES:
            self.assertIs(is_box(as_lists(box)), False, box)
            self.assertIs(is_box(by_turns(box)), False, box)
            self.assertIs(is_box(by_turns(box, False)), False, box)
            self.assertIs(is_box(list(box)), False, box)
            self.assertIs(is_box(box[:-1] + (list(box[-1]),)), False, box)

    def test_heights_that_rise_or_stand_twice(self):
        for heights in ((1, 2), (2, 2), (0, 0), (-2, -1), (9, 4, 5), (9, 4, 4), (9, 9, 4), (4, 9, 0), (9, 4, 9)):
            self.assertIs(is_box(tuple((who, 0, 0) for who in heights)), False, heights)

    def test_just_the_right_stretches(self):
        for least, greatest in itertools.product(range(-2, 5), repeat=2):
            for place in range(4):
                box = [(who, 0, at) for at, who in enumerate(FOLK[:4])]
                box[place] = (FOLK[place], least, greatest)
                self.assertIs(is_box(tuple(box)), 0 <= least <= greatest <= place, box)

    def test_other_things_for_numbers(self):
        for place, at in itertools.product(range(3), repeat=2):
            for word in (True, False, None, "0", "", (0,), [0], ()):
                box = [[3, 0, 0], [2, 0, 1], [1, 0, 2]]
                box[place][at] = word
                self.assertIs(is_box(tuple(map(tuple, box))), False, box)

    def test_a_part_too_many_or_too_few(self):
        for part in ((), (1,), (1, 0), (1, 0, 0, 0), (1, 0, 0, None), (0, 0), "100", "", None, 1, True):
            for thing in ((part,), ((2, 0, 0), part), (part, (0, 0, 1))):
                self.assertIs(is_box(thing), False, thing)
        for thing in ((), (1, 0, 0), ((), ()), (((1, 0, 0),),), (((1, 0, 0), (0, 0, 1)),)):
            self.assertIs(is_box(thing), False, thing)

    def test_anything_else(self):
        for thing in THINGS:
            self.assertIs(is_box(thing), thing == ((0, 0, 0),), thing)


class Rows(Asking):
    def test_against_all_orders(self):
        for box in small_boxes():
            rows = rows_by_hand(box)
            self.assertEqual(how_many(box), len(rows), box)
            self.assertEqual(all_in(box), rows, box)
            self.assertEqual([row_at(box, number) for number in range(len(rows))], rows, box)
            self.assertEqual([number_of(box, row) for row in rows], list(range(len(rows))), box)

    def test_is_in_against_all_orders(self):
        for box in small_boxes():
            for row in itertools.permutations([who for who, _, _ in box]):
                self.assertIs(is_in(box, row), in_by_hand(box, row), (box, row))

    def test_however_it_is_asked(self):
        for box in BOXES:
            rows = rows_by_hand(box)
            self.tells(how_many, len(rows), box=box)
            self.tells(all_in, rows, box=box)
            for number, row in enumerate(rows):
                self.tells(row_at, row, box=box, number=number)
                self.tells(number_of, number, box=box, row=row)
                self.tells(is_in, True, box=box, row=row)

    def test_as_written_out(self):
        box = ((9, 0, 0), (4, 0, 1), (0, 1, 1))
        self.tells(how_many, 2, box=box)
        self.tells(all_in, [(4, 0, 9), (9, 0, 4)], box=box)
        self.tells(is_in, False, box=box, row=(9, 4, 0))
        self.tells(is_in, False, box=box, row=(0, 9, 4))

    def test_is_in_of_other_folk(self):
        box = ((9, 0, 0), (4, 0, 1))
        for row in ((9,), (4,), (0,), (9, 0), (0, 4), (9, 4, 0), (0, 9, 4), (10, 9, 4), (9, 5, 4), (5, 4), (9, 4, 10)):
            self.tells(is_in, False, box=box, row=row)

    def test_no_row(self):
        for box in (*BOXES, WIDE):
            many = how_many(box)
            for number in (-1, -2, -many, -many - 1, many, many + 1, 10 ** 5000, -10 ** 5000):
                self.refused(row_at, NoRow, "number", number, box=box, number=number)

    def test_the_greatest_box(self):
        many = math.factorial(24)
        self.tells(how_many, many, box=WIDE)
        self.tells(row_at, tuple(sorted(MANY)), box=WIDE, number=0)
        self.tells(row_at, tuple(sorted(MANY, reverse=True)), box=WIDE, number=many - 1)
        self.tells(is_in, True, box=WIDE, row=MANY)
        for number in (0, 1, 2, 23, 24, many // 2, many // 3, many // 7 * 5, many - 2, many - 1):
            self.tells(number_of, number, box=WIDE, row=row_at(WIDE, number))
        self.tells(row_at, MANY, box=WIDE, number=number_of(WIDE, MANY))

    def test_great_boxes_of_narrow_stretches(self):
        chance = random.Random(24)
        for box in some_boxes(chance, sorted(MANY, reverse=True), 20):
            many = math.prod(greatest - least + 1 for _, least, greatest in box)
            self.assertEqual(how_many(box), many)
            for number in (0, many - 1, chance.randrange(many)):
                row = row_at(box, number)
                self.assertTrue(in_by_hand(box, row))
                self.assertEqual(number_of(box, row), number)


class AllIn(Asking):
    def test_no_more_than_there_may_be(self):
        folk = tuple(range(9, 0, -1))
        # 4 * 5 * 5 * 5 rows are as many as are told.
        stretches = (0, 0, 0, 3, 4, 4, 4, 0, 0)
        box = tuple((who, 0, greatest) for who, greatest in zip(folk, stretches))
        self.assertEqual(how_many(box), MOST_ROWS)
        self.assertEqual(all_in(box), [row_at(box, number) for number in range(500)])
        self.assertEqual(len(set(all_in(box))), 500)

    def test_too_many(self):
        # 501 is 3 * 167, and no stretch is so wide: 504 is the next number that a box can have.
        folk = tuple(range(9, 0, -1))
        box = tuple((who, 0, greatest) for who, greatest in zip(folk, (0, 0, 0, 0, 0, 0, 6, 7, 8)))
        self.refused(all_in, TooMany, "many", 504, box=box)
        self.refused(all_in, TooMany, "many", math.factorial(9), box=whole_box(folk))
        self.refused(all_in, TooMany, "many", math.factorial(24), box=WIDE)
        self.refused(all_in, TooMany, "many", 720, box=whole_box((1, 2, 3, 4, 5, 6)))

    def test_many_folk_with_few_rows(self):
        for least in range(2):
            box = tuple((-who, min(least, who), min(least, who)) for who in range(24))
            self.tells(all_in, [row_at(box, 0)], box=box)


class IsOutside(Asking):
    def test_the_very_one(self):
        for box in small_boxes():
            for row in itertools.permutations([who for who, _, _ in box]):
                if not in_by_hand(box, row):
                    with self.assertRaises(Outside) as caught:
                        number_of(box, row)
                    self.assertEqual(caught.exception.who, outside_by_hand(box, row), (box, row))

    def test_of_other_folk_by_hand(self):
        box = ((9, 0, 0), (4, 1, 1), (0, 0, 1))
        for many in range(1, 5):
            for row in itertools.permutations((12, 9, 6, 4, 0, -3), many):
                if not in_by_hand(box, row):
                    self.refused(number_of, Outside, "who", outside_by_hand(box, row), box=box, row=row)

    def test_one_who_is_not_there(self):
        box = ((9, 0, 0), (4, 0, 1), (0, 0, 2))
        self.refused(number_of, Outside, "who", 4, box=box, row=(9, 0))
        self.refused(number_of, Outside, "who", 0, box=box, row=(9, 4))
        self.refused(number_of, Outside, "who", 9, box=box, row=(4, 0))
        self.refused(number_of, Outside, "who", 9, box=box, row=(7,))
        self.refused(number_of, Outside, "who", 4, box=box, row=(9, 100))

    def test_too_few_or_too_many(self):
        box = ((9, 0, 0), (4, 1, 1), (0, 1, 1))
        self.refused(number_of, Outside, "who", 4, box=box, row=(4, 9, 0))
        self.refused(number_of, Outside, "who", 0, box=box, row=(9, 4, 0))
        self.refused(number_of, Outside, "who", 0, box=box, row=(0, 9, 4))
        # Two at once: the taller one is told.
        self.refused(number_of, Outside, "who", 4, box=box, row=(0, 4, 9))

    def test_strange_ones(self):
        box = ((9, 0, 0), (4, 1, 1), (0, 0, 1))
        # They're counted: the 12 ahead is one too many.
        self.refused(number_of, Outside, "who", 9, box=box, row=(12, 9, 0, 4))
        self.refused(number_of, Outside, "who", 4, box=box, row=(9, 6, 4))
        # Where nobody of the box is wrong, the tallest strange one is told.
        self.refused(number_of, Outside, "who", 12, box=box, row=(9, 0, 4, 12))
        self.refused(number_of, Outside, "who", 12, box=box, row=(9, 0, 4, 6, 12, 5))
        self.refused(number_of, Outside, "who", -3, box=box, row=(-3, 9, 0, 4))
        # They are told behind all of the box, though they're taller.
        self.refused(number_of, Outside, "who", 0, box=box, row=(9, 4, 12))
        # One who stands there instead may do for the counts, but not for the one.
        self.refused(number_of, Outside, "who", 9, box=box, row=(12, 4, 0))


class WholeBox(Asking):
    def test_folk_in_any_order(self):
        for folk in itertools.permutations((5, -1, 8)):
            self.tells(whole_box, ((8, 0, 0), (5, 0, 1), (-1, 0, 2)), folk=folk)
        self.tells(whole_box, ((7, 0, 0),), folk=(7,))
        self.tells(whole_box, WIDE, folk=MANY)

    def test_all_rows_are_in_it(self):
        for many in range(1, 6):
            box = whole_box(FOLK[:many])
            self.assertIs(is_box(box), True)
            self.assertEqual(how_many(box), math.factorial(many))
            for row in itertools.permutations(FOLK[:many]):
                self.assertIs(is_in(box, row), True)


class Both(Asking):
    def test_against_all_rows(self):
        for many in range(1, 4):
            for box, other in itertools.product(all_boxes(FOLK[:many]), repeat=2):
                wanted = [row for row in rows_by_hand(box) if in_by_hand(other, row)]
                found = both(box, other)
                if wanted:
                    self.assertIs(is_box(found), True)
                    self.assertEqual(rows_by_hand(found), wanted)
                else:
                    self.assertIsNone(found)

    def test_some_greater_ones(self):
        chance = random.Random(2)
        nothing = 0
        for box, other in zip(some_boxes(chance, FOLK, 300), some_boxes(chance, FOLK, 300)):
            wanted = [row for row in rows_by_hand(box) if in_by_hand(other, row)]
            found = both(box, other)
            nothing += found is None
            self.assertEqual([] if found is None else rows_by_hand(found), wanted)
        self.assertTrue(0 < nothing < 300)

    def test_however_it_is_asked(self):
        box, other = ((9, 0, 0), (4, 0, 1), (0, 1, 2)), ((9, 0, 0), (4, 1, 1), (0, 0, 1))
        self.tells(both, ((9, 0, 0), (4, 1, 1), (0, 1, 1)), box=box, other=other)
        self.tells(both, ((9, 0, 0), (4, 1, 1), (0, 1, 1)), box=other, other=box)
        self.tells(both, box, box=box, other=box)
        self.tells(both, None, box=((2, 0, 0), (1, 0, 0)), other=((2, 0, 0), (1, 1, 1)))
        self.tells(both, WIDE, box=WIDE, other=WIDE)

    def test_unlike(self):
        for box, other in (
                (((1, 0, 0),), ((2, 0, 0),)), (((2, 0, 0),), ((2, 0, 0), (1, 0, 1))),
                (((2, 0, 0), (1, 0, 1)), ((2, 0, 0),)), (((9, 0, 0), (4, 0, 0)), ((9, 0, 0), (3, 1, 1))),
                (((9, 0, 0), (4, 0, 0)), ((8, 0, 0), (4, 1, 1))),
                # No row can be in both of these, and they're of other folk, too: that is refused.
                (((9, 0, 0), (4, 0, 0), (1, 0, 0)), ((9, 0, 0), (4, 1, 1), (0, 0, 0)))):
            self.refused(both, Unlike, None, None, box=box, other=other)


class Interface(Asking):
    def test_names_and_arguments(self):
        self.defined_in(module, {
            "is_box": "thing", "is_in": "box row", "how_many": "box", "row_at": "box number", "number_of": "box row",
            "whole_box": "folk", "both": "box other", "all_in": "box"})


if __name__ == "__main__":
    unittest.main()
