"""Rows and their codes: [4], with [1], [2] and [3] so far as they speak of them."""

import copy
import inspect
import itertools
import math
import unittest

from balconyrow import rows
from balconyrow.errors import NoOne, NoPlace
from balconyrow.rows import (
    code_of, exchanged, folk_of, is_code, is_row, row_of, taller_ahead, taller_behind, turned)

TALLEST = 10 ** 9
SHORTEST = -10 ** 9

# 24 folk, both bounds of heights among them, in no order.
MANY = (5, SHORTEST, 77, -8, TALLEST, 0, 123456789, -4, 3, 999999999, -999999999, 12, 1, -1, 640, 2, -70,
        31, 4, 1000, -250000000, 8, 6, -2)

ROWS = ((7,), (0,), (SHORTEST,), (1, 2), (2, 1), (TALLEST, SHORTEST), (3, 1, 2), (-5, 0, 5), (4, 8, 6, 1, 9), MANY,
        tuple(sorted(MANY)), tuple(sorted(MANY, reverse=True)))

# Things of the kinds of [2] that are neither a ROW nor a CODE.
NEITHER = (
    None, True, False, 0, 1, -3, 10 ** 5000, "", "1", "0 1", "row", (), [], [0], [0, 1], [1, 2], [[0]], ((),), ([],),
    (None,), (True,), (False,), ("0",), ("",), ((0,),), ([0],), (0, True), (False, 1), (0, False), (True, 2), (0, None),
    (0, "1"), ("0", 1), (0, (1,)), (0, [1]), ((0, 1),), ((0, 1), (0, 1)), [(0, 1)], ([0, 1],),
    ((((((((1,),),),),),),),), [[[[[[[[1]]]]]]]], (0, ((((((1,),),),),),)), (1, 1, "a"), (0, 0, None), (-1, 5, True),
)


def places_of_folk(row):
    """How many taller ones each has ahead and behind, by looking at all pairs of places."""
    ahead = {who: 0 for who in row}
    behind = {who: 0 for who in row}
    for first, second in itertools.combinations(range(len(row)), 2):
        if row[first] > row[second]:
            ahead[row[second]] += 1
        else:
            behind[row[first]] += 1
    return ahead, behind


class RowTest(unittest.TestCase):
    def tells(self, told, wanted):
        """Told is just what is wanted, and a tuple of plain numbers."""
        self.assertIs(type(told), tuple)
        self.assertEqual(told, wanted)
        self.assertTrue(all(type(number) is int for number in told))

    def refused(self, refusal, field, value, ask, *handed):
        with self.assertRaises(refusal) as caught:
            ask(*handed)
        self.assertIs(type(caught.exception), refusal)
        self.assertEqual(getattr(caught.exception, field), value)


class Asked(RowTest):
    def test_is_row(self):
        for row in ROWS:
            self.assertIs(is_row(row), True, row)
        # The bounds aren't looked at.
        for row in (tuple(range(25)), tuple(range(-300, 300)), (10 ** 9 + 1,), (-10 ** 40, 10 ** 5000)):
            self.assertIs(is_row(row), True)

    def test_is_row_of_a_height_twice(self):
        for thing in ((1, 1), (0, 0), (3, 1, 3), (1, 2, 3, 2), (-1, 4, -1), (TALLEST, TALLEST), MANY + (5,)):
            self.assertIs(is_row(thing), False, thing)

    def test_is_code(self):
        for code in ((0,), (0, 0), (0, 1), (0, 0, 0), (0, 1, 2), (0, 1, 0, 3), (0, 0, 2, 1, 4),
                     tuple(range(24)), (0,) * 24, tuple(range(300))):
            self.assertIs(is_code(code), True, code)

    def test_is_code_of_a_number_that_cannot_stand_there(self):
        for thing in ((1,), (-1,), (0, 2), (0, -1), (1, 1), (1, 0), (-1, 0), (0, 1, 3), (0, 1, -1), (0, 0, 0, 4),
                      (0, 1, 2, 3, 5, 5), (5, 3, 1), tuple(range(23)) + (24,), (0,) * 23 + (-1,), (10 ** 5000,)):
            self.assertIs(is_code(thing), False, thing)

    def test_just_the_codes_are_codes(self):
        for many in range(1, 5):
            for thing in itertools.product(range(-1, 5), repeat=many):
                wanted = all(0 <= thing[place] <= place for place in range(many))
                self.assertIs(is_code(thing), wanted, thing)

    def test_neither(self):
        for thing in NEITHER:
            self.assertIs(is_row(thing), False)
            self.assertIs(is_code(thing), False)

    def test_a_list_is_none(self):
        for row in ROWS:
            self.assertIs(is_row(list(row)), False, row)
            self.assertIs(is_code(list(code_of(row))), False, row)

    def test_true_or_false_in_the_place_of_any_number(self):
        for place in range(3):
            for word in (True, False, None, "2", (2,), [2]):
                row = [5, 7, 9]
                row[place] = word
                self.assertIs(is_row(tuple(row)), False, row)
                code = [0, 0, 0]
                code[place] = word
                self.assertIs(is_code(tuple(code)), False, code)


class Told(RowTest):
    def test_folk_of(self):
        self.tells(folk_of((7,)), (7,))
        self.tells(folk_of((1, 2)), (2, 1))
        self.tells(folk_of((2, 1)), (2, 1))
        self.tells(folk_of((4, 8, 6, 1, 9)), (9, 8, 6, 4, 1))
        self.tells(folk_of((-5, 0, 5)), (5, 0, -5))
        for row in ROWS:
            self.tells(folk_of(row), tuple(sorted(row))[::-1])

    def test_code_of(self):
        self.tells(code_of((7,)), (0,))
        self.tells(code_of((1, 2)), (0, 0))
        self.tells(code_of((2, 1)), (0, 1))
        self.tells(code_of((4, 8, 6, 1, 9)), (0, 0, 1, 0, 3))
        self.tells(code_of(tuple(range(24))), (0,) * 24)
        self.tells(code_of(tuple(range(24, 0, -1))), tuple(range(24)))
        for row in ROWS:
            ahead, _ = places_of_folk(row)
            self.tells(code_of(row), tuple(ahead[who] for who in sorted(row, reverse=True)))
            self.assertIs(is_code(code_of(row)), True)

    def test_row_of(self):
        self.tells(row_of((7,), (0,)), (7,))
        self.tells(row_of((2, 1), (0, 0)), (1, 2))
        self.tells(row_of((2, 1), (0, 1)), (2, 1))
        self.tells(row_of((9, 8, 6, 4, 1), (0, 0, 1, 0, 3)), (4, 8, 6, 1, 9))

    def test_row_of_gives_the_very_row_again(self):
        for row in ROWS:
            self.tells(row_of(folk_of(row), code_of(row)), row)

    def test_each_code_has_one_row_of_its_own(self):
        for many in range(1, 7):
            folk = tuple(range(many * 3, 0, -3))
            codes = list(itertools.product(*[range(place + 1) for place in range(many)]))
            found = [row_of(folk, code) for code in codes]
            self.assertEqual(len(found), math.factorial(many))
            self.assertEqual(set(found), set(itertools.permutations(folk)))
            for row, code in zip(found, codes):
                self.tells(code_of(row), code)

    def test_turned(self):
        self.tells(turned((7,)), (7,))
        self.tells(turned((1, 2)), (2, 1))
        self.tells(turned((4, 8, 6, 1, 9)), (9, 1, 6, 8, 4))
        for row in ROWS:
            self.tells(turned(row), tuple(reversed(row)))
            self.tells(turned(turned(row)), row)

    def test_turning_turns_ahead_and_behind(self):
        for row in ROWS:
            for who in row:
                self.assertEqual(taller_ahead(turned(row), who), taller_behind(row, who))


class Counted(RowTest):
    def test_the_counts_of_each_one(self):
        for row in ROWS:
            ahead, behind = places_of_folk(row)
            for who in row:
                for found, wanted in ((taller_ahead(row, who), ahead[who]), (taller_behind(row, who), behind[who])):
                    self.assertIs(type(found), int)
                    self.assertEqual(found, wanted, (row, who))

    def test_the_counts_as_they_are_written_out(self):
        row = (4, 8, 6, 1, 9)
        self.assertEqual([taller_ahead(row, who) for who in row], [0, 0, 1, 3, 0])
        self.assertEqual([taller_behind(row, who) for who in row], [3, 1, 1, 1, 0])

    def test_no_one(self):
        for row in ROWS:
            for who in (-17, 16, 100, TALLEST + 1, SHORTEST - 1, 10 ** 5000, -10 ** 5000, max(row) + 1, min(row) - 1):
                for ask in (taller_ahead, taller_behind):
                    self.refused(NoOne, "who", who, ask, row, who)
                    self.refused(NoOne, "who", who, ask, list(row), who)
        self.refused(NoOne, "who", 0, taller_ahead, (1, 2), 0)
        self.refused(NoOne, "who", 0, taller_behind, (1, 2), 0)


class Exchanges(RowTest):
    def test_exchanged(self):
        self.tells(exchanged((1, 2), 0), (2, 1))
        self.tells(exchanged((4, 8, 6, 1, 9), 0), (8, 4, 6, 1, 9))
        self.tells(exchanged((4, 8, 6, 1, 9), 2), (4, 8, 1, 6, 9))
        self.tells(exchanged((4, 8, 6, 1, 9), 3), (4, 8, 6, 9, 1))
        for row in ROWS:
            for place in range(len(row) - 1):
                wanted = row[:place] + (row[place + 1], row[place]) + row[place + 2:]
                self.tells(exchanged(row, place), wanted)
                self.tells(exchanged(exchanged(row, place), place), row)

    def test_no_place(self):
        for row in ROWS:
            last = len(row) - 1
            for place in (-1, -2, -len(row), -len(row) - 1, -10 ** 5000, last, last + 1, last + 2, 99, 10 ** 5000):
                self.refused(NoPlace, "place", place, exchanged, row, place)
                self.refused(NoPlace, "place", place, exchanged, list(row), place)

    def test_a_row_of_one_has_none(self):
        for place in range(-3, 4):
            self.refused(NoPlace, "place", place, exchanged, (7,), place)


class HandedIn(RowTest):
    def test_lists_and_tuples_are_told_the_same(self):
        for row in ROWS:
            folk, code = folk_of(row), code_of(row)
            self.tells(folk_of(list(row)), folk)
            self.tells(code_of(list(row)), code)
            self.tells(turned(list(row)), turned(row))
            for some in (folk, list(folk)):
                for numbers in (code, list(code)):
                    self.tells(row_of(some, numbers), row)
            for who in row:
                self.assertEqual(taller_ahead(list(row), who), taller_ahead(row, who))
                self.assertEqual(taller_behind(list(row), who), taller_behind(row, who))
            for place in range(len(row) - 1):
                self.tells(exchanged(list(row), place), exchanged(row, place))

    def test_by_names_in_any_order(self):
        row = (4, 8, 6, 1, 9)
        self.assertIs(is_row(thing=row), True)
        self.assertIs(is_code(thing=(0, 1)), True)
        self.tells(folk_of(row=row), (9, 8, 6, 4, 1))
        self.tells(code_of(row=row), (0, 0, 1, 0, 3))
        self.tells(turned(row=row), (9, 1, 6, 8, 4))
        self.assertEqual(taller_ahead(who=1, row=row), 3)
        self.assertEqual(taller_ahead(row, who=1), 3)
        self.assertEqual(taller_behind(who=4, row=row), 3)
        self.assertEqual(taller_behind(row, who=4), 3)
        self.tells(row_of(code=(0, 0, 1, 0, 3), folk=(9, 8, 6, 4, 1)), row)
        self.tells(row_of((9, 8, 6, 4, 1), code=(0, 0, 1, 0, 3)), row)
        self.tells(exchanged(place=1, row=row), (4, 6, 8, 1, 9))
        self.tells(exchanged(row, place=1), (4, 6, 8, 1, 9))
        self.refused(NoOne, "who", 5, lambda: taller_ahead(who=5, row=row))
        self.refused(NoPlace, "place", 4, lambda: exchanged(place=4, row=row))

    def test_nothing_handed_in_is_changed(self):
        row, code, thing = [4, 8, 6, 1, 9], [0, 0, 1, 0, 3], [0, [1, [2]]]
        folk = [9, 8, 6, 4, 1]
        before = copy.deepcopy((row, code, folk, thing))
        for ask in (folk_of, code_of, turned, is_row, is_code):
            ask(row)
        for ask in (is_row, is_code):
            ask(thing)
        row_of(folk, code)
        for ask, number in ((taller_ahead, 6), (taller_behind, 6), (exchanged, 2)):
            ask(row, number)
        for ask, refusal in ((taller_ahead, NoOne), (taller_behind, NoOne), (exchanged, NoPlace)):
            with self.assertRaises(refusal):
                ask(row, 77)
        self.assertEqual((row, code, folk, thing), before)

    def test_a_later_change_is_not_seen(self):
        row = [4, 8, 6, 1, 9]
        told = (folk_of(row), code_of(row), turned(row), exchanged(row, 0))
        row[0] = 55
        self.assertEqual(told, ((9, 8, 6, 4, 1), (0, 0, 1, 0, 3), (9, 1, 6, 8, 4), (8, 4, 6, 1, 9)))

    def test_what_was_told_may_be_handed_in_again(self):
        row = (4, 8, 6, 1, 9)
        for place in range(4):
            row = turned(exchanged(row, place))
            self.assertIs(is_row(row), True)
            self.tells(row_of(folk_of(row), code_of(row)), row)
            self.tells(folk_of(folk_of(row)), (9, 8, 6, 4, 1))


class Interface(unittest.TestCase):
    def test_names_and_arguments(self):
        wanted = {
            "is_row": ["thing"], "is_code": ["thing"], "folk_of": ["row"], "taller_ahead": ["row", "who"],
            "taller_behind": ["row", "who"], "code_of": ["row"], "row_of": ["folk", "code"], "turned": ["row"],
            "exchanged": ["row", "place"]}
        for name, arguments in wanted.items():
            ask = getattr(rows, name)
            self.assertEqual(ask.__module__, "balconyrow.rows")
            self.assertEqual(list(inspect.signature(ask).parameters), arguments)


if __name__ == "__main__":
    unittest.main()
