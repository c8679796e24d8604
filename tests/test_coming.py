"""Who comes and who goes, seen or not: [15]."""

import itertools
import random
import time
import unittest

from balconyrow import coming as module
from balconyrow.coming import come, gone, quiet_places, seen_otherwise
from balconyrow.errors import Known, Last, NoOne, NoPlace
from tests.common import MANY, SHORTEST, TALLEST, Asking, seen_by_hand

FULL = tuple(range(1, 100))

HOUSES = (
    ((), ()), ((1,), ()), ((), (1,)), ((1,), (1,)), ((2,), (2,)), ((1, 3), (2,)), ((), (1, 2, 3)), ((2, 99), (50,)),
    (FULL, FULL))


def otherwise_by_hand(row, houses, who, place):
    """Whom floors see otherwise: some floor's view has it with the newcomer and hasn't without, or the other way."""
    before = seen_by_hand(row, houses)
    after = seen_by_hand((*row[:place], who, *row[place:]), houses)
    told = set()
    for old, new in zip(before, after):
        for mine, its in zip(old, new):
            told |= (mine ^ its) - {who}
    return sorted(told)


class Comes(Asking):
    def test_by_hand(self):
        row = (4, 8, 6)
        for place, wanted in ((0, (5, 4, 8, 6)), (1, (4, 5, 8, 6)), (2, (4, 8, 5, 6)), (3, (4, 8, 6, 5))):
            self.tells(come, wanted, row=row, who=5, place=place)
        for who in (TALLEST, SHORTEST, 0, -1):
            self.tells(come, (7, who), row=(7,), who=who, place=1)
            self.tells(come, (who, 7), row=(7,), who=who, place=0)

    def test_no_such_place(self):
        for place in (-1, -2, -4, 4, 5, 99, 10 ** 5000, -10 ** 5000):
            self.refused(come, NoPlace, "place", place, row=(4, 8, 6), who=5, place=place)
        self.refused(come, NoPlace, "place", 2, row=(4,), who=5, place=2)

    def test_known_ahead_of_no_place(self):
        for who in (4, 8, 6):
            for place in (0, 1, 3, 4, -1):
                self.refused(come, Known, "who", who, row=(4, 8, 6), who=who, place=place)

    def test_24_folk(self):
        for place in range(25):
            self.tells(come, (*MANY[:place], 50, *MANY[place:]), row=MANY, who=50, place=place)


class Goes(Asking):
    def test_by_hand(self):
        for who, wanted in ((4, (8, 6)), (8, (4, 6)), (6, (4, 8))):
            self.tells(gone, wanted, row=(4, 8, 6), who=who)
        self.tells(gone, (-3,), row=(0, -3), who=0)

    def test_nobody_such(self):
        for who in (5, 0, -4, 10 ** 5000):
            self.refused(gone, NoOne, "who", who, row=(4, 8, 6), who=who)

    def test_the_only_one(self):
        self.refused(gone, Last, None, None, row=(4,), who=4)

    def test_no_one_ahead_of_last(self):
        self.refused(gone, NoOne, "who", 5, row=(4,), who=5)

    def test_come_and_gone(self):
        for place in range(4):
            self.assertEqual(gone(come((4, 8, 6), 5, place=place), 5), (4, 8, 6))


class SeenOtherwise(Asking):
    def test_against_the_views(self):
        rows = [row for many in range(1, 5) for row in itertools.permutations((9, 5, 1, -4)[:many])]
        for row in rows[::2] + rows[1::6]:
            for houses in HOUSES:
                for who in (12, 7, 3, 0, -9):
                    found = [seen_otherwise(row, houses, who, place=place) for place in range(len(row) + 1)]
                    wanted = [otherwise_by_hand(row, houses, who, place) for place in range(len(row) + 1)]
                    self.assertEqual(found, wanted, (row, houses, who))
                    quiet = [place for place, told in enumerate(wanted) if told == []]
                    self.assertEqual(quiet_places(row, houses, who), quiet, (row, houses, who))

    def test_as_written_out(self):
        row, houses = (4, 8, 6), ((1,), ())
        # A 5 ahead hides the 4; behind the 4 and ahead of the 8 it hides nobody.
        self.tells(seen_otherwise, [4], row=row, houses=houses, who=5, place=0)
        self.tells(seen_otherwise, [], row=row, houses=houses, who=5, place=1)
        self.tells(seen_otherwise, [4, 8], row=row, houses=houses, who=9, place=0)
        self.tells(quiet_places, [1, 2, 3], row=row, houses=houses, who=5)
        self.tells(quiet_places, [2, 3], row=row, houses=houses, who=9)
        self.tells(quiet_places, [0, 1, 2, 3], row=row, houses=houses, who=1)
        self.tells(quiet_places, [1, 2], row=row, houses=((1,), (1,)), who=7)

    def test_nobody_is_seen_otherwise_of_the_least(self):
        for houses in HOUSES[:8]:
            self.tells(quiet_places, [0, 1, 2, 3], row=(4, 8, 6), houses=houses, who=3)

    def test_without_floors(self):
        for place in range(4):
            self.tells(seen_otherwise, [], row=(4, 8, 6), houses=((), ()), who=9, place=place)
        self.tells(quiet_places, [0, 1, 2, 3], row=(4, 8, 6), houses=((), ()), who=9)

    def test_no_place_is_quiet(self):
        self.tells(quiet_places, [], row=(4,), houses=((1,), (1,)), who=9)

    def test_refused_as_come(self):
        for houses in (((), ()), ((1,), (2,))):
            for who in (4, 8, 6):
                for place in (0, 3, 4, -1):
                    self.refused(seen_otherwise, Known, "who", who, row=(4, 8, 6), houses=houses, who=who, place=place)
                self.refused(quiet_places, Known, "who", who, row=(4, 8, 6), houses=houses, who=who)
            for place in (-1, 4, 99):
                self.refused(seen_otherwise, NoPlace, "place", place, row=(4, 8, 6), houses=houses, who=5, place=place)

    def test_24_folk_in_good_time(self):
        chance = random.Random(60)
        begin = time.perf_counter()
        for houses in ((FULL, FULL), ((1, 2, 3), (1, 2)), (FULL[::3], FULL[::2])):
            for who in (50, -9, 10 ** 9 - 7):
                quiet = quiet_places(MANY, houses, who)
                for place in chance.sample(range(25), 4):
                    wanted = otherwise_by_hand(MANY, houses, who, place)
                    self.assertEqual(seen_otherwise(MANY, houses, who, place=place), wanted)
                    self.assertEqual(place in quiet, wanted == [])
        self.assertLess(time.perf_counter() - begin, 30)


class Interface(Asking):
    def test_names_and_arguments(self):
        self.defined_in(module, {
            "come": "row who * place", "gone": "row who", "seen_otherwise": "row houses who * place",
            "quiet_places": "row houses who"})


if __name__ == "__main__":
    unittest.main()
