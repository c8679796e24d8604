"""How many rows and views there are: [13], and promise (a) of [1] of counting."""

import collections
import itertools
import math
import random
import time
import unittest

from balconyrow import counts as module
from balconyrow.boxes import how_many
from balconyrow.counts import known_rows, most_rows, rows_seeing, views_many
from balconyrow.houses import views
from balconyrow.seen import box_seen
from tests.common import Asking, seen_by_hand

FULL = tuple(range(1, 100))

HOUSES = (
    ((), ()), ((1,), ()), ((), (1,)), ((1,), (1,)), ((2,), ()), ((), (3,)), ((2,), (2,)), ((1, 2), (1,)),
    ((1, 3), (2,)), ((2, 4), (1, 3)), ((1, 2, 3), (1, 2, 3)), ((3,), (3,)), ((5,), (1,)), ((6,), (7,)),
    ((99,), (98, 99)), ((1, 99), ()), (FULL, ()), ((), FULL), (FULL, FULL))


def rows_by_views(many, houses):
    return collections.Counter(seen_by_hand(row, houses) for row in itertools.permutations(range(many)))


class AgainstAllOrders(Asking):
    def test_views_and_their_rows(self):
        for many in range(1, 7):
            for houses in HOUSES:
                if many == 6 and 99 in map(len, houses):
                    continue
                met = rows_by_views(many, houses)
                self.assertEqual(views_many(many, houses), len(met), (many, houses))
                self.assertEqual(most_rows(many, houses), max(met.values()), (many, houses))
                self.assertEqual(known_rows(many, houses), list(met.values()).count(1), (many, houses))

    def test_all_houses_of_few_floors(self):
        sides = [side for many in range(4) for side in itertools.combinations(range(1, 6), many)]
        for houses in itertools.product(sides, sides):
            met = rows_by_views(4, houses)
            self.assertEqual(views_many(4, houses), len(met), houses)
            self.assertEqual(most_rows(4, houses), max(met.values()), houses)
            self.assertEqual(known_rows(4, houses), list(met.values()).count(1), houses)

    def test_the_views_that_houses_tell(self):
        for houses in HOUSES[:12]:
            met = collections.Counter(views(row, houses) for row in itertools.permutations((7, -3, 0, 100, 2)))
            self.assertEqual(views_many(5, houses), len(met))
            self.assertEqual(most_rows(5, houses), max(met.values()))
            self.assertEqual(known_rows(5, houses), list(met.values()).count(1))

    def test_rows_seeing(self):
        for many in range(1, 7):
            for left, right in itertools.product((1, 2, 3, 6, 9, 99), repeat=2):
                met = collections.Counter()
                for row in itertools.permutations(range(many)):
                    (mine,), (its,) = seen_by_hand(row, ((left,), (right,)))
                    met[len(mine), len(its)] += 1
                for mine, its in itertools.product(range(many + 3), repeat=2):
                    found = rows_seeing(many, left, right, mine=mine, its=its)
                    self.assertEqual(found, met[mine, its], (many, left, right, mine, its))


class AsWrittenOut(Asking):
    def test_without_floors_nothing_is_seen(self):
        for many in range(1, 25):
            self.tells(views_many, 1, many=many, houses=((), ()))
            self.tells(most_rows, math.factorial(many), many=many, houses=((), ()))
            self.tells(known_rows, int(many == 1), many=many, houses=((), ()))

    def test_with_all_floors_each_row_is_known(self):
        for many in range(1, 25):
            for houses in ((FULL, ()), ((), FULL), (tuple(range(1, many)), ())):
                self.tells(views_many, math.factorial(many), many=many, houses=houses)
                self.tells(most_rows, 1, many=many, houses=houses)
                self.tells(known_rows, math.factorial(many), many=many, houses=houses)

    def test_floors_above_the_number_of_folk_tell_nothing(self):
        for houses in (((5,), ()), ((), (5,)), ((5, 6, 99), (7, 80))):
            self.tells(views_many, 1, many=5, houses=houses)
            self.tells(most_rows, 120, many=5, houses=houses)
            self.tells(known_rows, 0, many=5, houses=houses)
        self.tells(rows_seeing, 120, many=5, left=5, right=99, mine=5, its=5)
        self.tells(rows_seeing, 0, many=5, left=5, right=99, mine=5, its=4)

    def test_one_alone(self):
        for houses in HOUSES:
            for ask in (views_many, most_rows, known_rows):
                self.tells(ask, 1, many=1, houses=houses)
        self.tells(rows_seeing, 1, many=1, left=1, right=1, mine=1, its=1)
        for mine, its in ((0, 0), (1, 0), (0, 1), (2, 1), (1, 2)):
            self.tells(rows_seeing, 0, many=1, left=1, right=1, mine=mine, its=its)

    def test_two(self):
        self.tells(rows_seeing, 1, many=2, left=1, right=1, mine=1, its=2)
        self.tells(rows_seeing, 1, many=2, left=1, right=1, mine=2, its=1)
        self.tells(rows_seeing, 0, many=2, left=1, right=1, mine=2, its=2)
        self.tells(views_many, 2, many=2, houses=((1,), ()))

    def test_three_by_hand(self):
        # From the left of 123 132 213 231 312 321 one sees 3 2 2 2 1 1, from the right 1 2 1 2 2 3.
        for mine, its, wanted in ((3, 1, 1), (2, 2, 2), (2, 1, 1), (1, 2, 1), (1, 3, 1), (3, 2, 0), (0, 1, 0)):
            self.tells(rows_seeing, wanted, many=3, left=1, right=1, mine=mine, its=its)
        # By both first floors each row is known; by one of them the least is not where it's no first one.
        self.tells(views_many, 6, many=3, houses=((1,), (1,)))
        self.tells(most_rows, 1, many=3, houses=((1,), (1,)))
        self.tells(known_rows, 6, many=3, houses=((1,), (1,)))
        self.tells(views_many, 4, many=3, houses=((1,), ()))
        self.tells(most_rows, 2, many=3, houses=((1,), ()))
        self.tells(known_rows, 2, many=3, houses=((1,), ()))

    def test_so_many_as_no_row_has(self):
        for mine, its in ((0, 3), (3, 0), (7, 1), (1, 7), (6, 6), (10 ** 20, 1), (1, 10 ** 20)):
            self.tells(rows_seeing, 0, many=6, left=1, right=1, mine=mine, its=its)


class ManyFolk(Asking):
    def test_the_rows_of_24_are_all_counted(self):
        begin = time.perf_counter()
        for left, right in ((1, 1), (2, 7), (24, 3), (99, 99), (11, 12)):
            found = [rows_seeing(24, left, right, mine=mine, its=its) for mine in range(26) for its in range(26)]
            self.assertEqual(sum(found), math.factorial(24))
        self.assertLess(time.perf_counter() - begin, 60)

    def test_one_side_alone(self):
        # A left floor k sees the first k tallest surely, each next one by k of its numbers ahead.
        for floor in (1, 2, 5):
            ways = [1]
            for taller in range(24):
                sure, hidden = min(floor, taller + 1), max(0, taller + 1 - floor)
                ways = [a * hidden + b * sure for a, b in zip([*ways, 0], [0, *ways])]
            for mine in range(26):
                wanted = ways[mine] if mine < len(ways) else 0
                self.assertEqual(rows_seeing(24, floor, 99, mine=mine, its=24), wanted)
                self.assertEqual(rows_seeing(24, 99, floor, mine=24, its=mine), wanted)

    def test_the_box_of_a_row_is_never_greater(self):
        chance = random.Random(40)
        for _ in range(40):
            many = chance.randrange(2, 25)
            houses = tuple(tuple(sorted(chance.sample(range(1, 30), chance.randrange(4)))) for _ in range(2))
            row = chance.sample(range(1000), many)
            most = most_rows(many, houses)
            self.assertLessEqual(how_many(box_seen(row, houses)), most)
            # All rows are seen in some way, none by more rows than the most.
            self.assertLessEqual(math.factorial(many), views_many(many, houses) * most)
            self.assertLessEqual(known_rows(many, houses), views_many(many, houses))

    def test_full_houses_of_24(self):
        for houses in ((FULL, FULL), (FULL[::2], FULL[::3]), (FULL[1::2], ())):
            begin = time.perf_counter()
            told = views_many(24, houses), most_rows(24, houses), known_rows(24, houses)
            self.assertLess(time.perf_counter() - begin, 5)
            self.assertLessEqual(told[2], told[0])


class HandedIn(Asking):
    def test_however_it_is_asked(self):
        for houses in HOUSES[:14]:
            met = rows_by_views(4, houses)
            self.tells(views_many, len(met), many=4, houses=houses)
            self.tells(most_rows, max(met.values()), many=4, houses=houses)
            self.tells(known_rows, list(met.values()).count(1), many=4, houses=houses)


class Interface(Asking):
    def test_names_and_arguments(self):
        self.defined_in(module, {
            "views_many": "many houses", "rows_seeing": "many left right * mine its", "most_rows": "many houses",
            "known_rows": "many houses"})


if __name__ == "__main__":
    unittest.main()
