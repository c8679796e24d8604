"""Which rows are led to one another, roads and bars: [11], and promises (a) and (b) of [1] of these."""

import itertools
import random
import unittest

from balconyrow import led as module
from balconyrow.boxes import how_many, number_of, row_at, whole_box
from balconyrow.errors import Barred, Outside
from balconyrow.houses import told_by, views
from balconyrow.led import bar, leads, road, shows_bar, shows_road
from balconyrow.seen import box_seen
from balconyrow.walls import lot_box
from tests.common import (
    MANY, THINGS, Asking, all_boxes, as_lists, in_by_hand, lots_by_hand, rows_by_hand, some_boxes, swapped,
    walled_boxes, walls_by_hand, walls_within)

FOLK = (9, 4, 1, 0, -2, -7)

# Two lots: 3 or 2 stands ahead of the 1 that can't be crossed.
SMALL = ((3, 0, 0), (2, 0, 1), (1, 1, 1))


def small_boxes():
    """All boxes of few folk, and some of more."""
    for many in range(1, 5):
        yield from all_boxes(FOLK[:many])
    yield from some_boxes(random.Random(20), FOLK[:5], 30)
    yield from walled_boxes(random.Random(21), FOLK[:5], 40)
    yield from walled_boxes(random.Random(22), FOLK, 12)


def some_pairs(rows):
    """Of few rows all pairs, of more some."""
    step = 1 + len(rows) // 8
    return itertools.product(rows[::step], rows[step // 2::step])


def by_places(walls, place=""):
    """Each wall with where it stands among the walls: the first wall, then left of it, then right of it."""
    if not walls:
        return []
    who, ahead, left, right = walls
    return [(place, who, ahead), *by_places(left, place + "l"), *by_places(right, place + "r")]


def bar_by_hand(box, one, other):
    its = {place: ahead for place, _, ahead in by_places(walls_by_hand(box, other))}
    for place, who, ahead in by_places(walls_by_hand(box, one)):
        if its.get(place) != ahead:
            return (who, ahead)
    return None


def led_by_hand(box, row, steps):
    """Where the steps lead; None where one isn't there or leads out of the box."""
    for place in steps:
        if not 0 <= place < len(row) - 1 or not in_by_hand(box, swapped(row, place)):
            return None
        row = swapped(row, place)
    return row


def outside_told(box, row):
    try:
        number_of(box, row)
    except Outside as refusal:
        return refusal.who
    return None


class AgainstAllExchanges(Asking):
    def test_leads_and_bar(self):
        barred = 0
        for box in small_boxes():
            lots = lots_by_hand(box)
            for one, other in some_pairs(list(lots)):
                led = lots[one] is lots[other]
                wanted = bar_by_hand(box, one, other)
                barred += not led
                self.assertEqual(led, wanted is None)
                self.assertIs(leads(box, one, other), led, (box, one, other))
                self.assertEqual(bar(box, one, other), wanted, (box, one, other))
        self.assertGreater(barred, 100)

    def test_road(self):
        for box in small_boxes():
            lots = lots_by_hand(box)
            for one, other in some_pairs(list(lots)):
                if lots[one] is lots[other]:
                    steps = road(box, one, other)
                    self.assertEqual(led_by_hand(box, one, steps), other, (box, one, other))
                    self.assertIs(shows_road(box, one, other, steps), True)
                else:
                    with self.assertRaises(Barred) as caught:
                        road(box, one, other)
                    self.assertEqual(caught.exception.who, bar_by_hand(box, one, other)[0])

    def test_never_both(self):
        for box in small_boxes():
            for one, other in some_pairs(rows_by_hand(box)[:12]):
                found = bar(box, one, other)
                self.assertIs(shows_bar(box, one, other, found), not leads(box, one, other))

    def test_unseen(self):
        """Promise (b): led unseen is just what has the same views and is led in the box that they leave."""
        for houses in (((1,), (1,)), ((2,), (1,)), ((1, 3), (2,)), ((2, 3), (3,)), ((1, 2), (1, 2))):
            orders = list(itertools.permutations(FOLK[:5]))
            for start in orders[::17]:
                reached = [start]
                for row in reached:
                    for place in range(4):
                        if told_by(row, houses, place) == [] and swapped(row, place) not in reached:
                            reached.append(swapped(row, place))
                box = box_seen(start, houses)
                alike = [row for row in orders if views(row, houses) == views(start, houses)]
                self.assertLessEqual(set(reached), set(alike))
                for row in alike:
                    self.assertIs(leads(box, start, row), row in reached)


class AsWrittenOut(Asking):
    def test_kept_apart(self):
        one, other = (3, 1, 2), (2, 1, 3)
        self.tells(leads, False, box=SMALL, one=one, other=other)
        self.tells(bar, (1, (3,)), box=SMALL, one=one, other=other)
        self.tells(bar, (1, (2,)), box=SMALL, one=other, other=one)
        self.refused(road, Barred, "who", 1, box=SMALL, one=one, other=other)
        self.tells(shows_bar, True, box=SMALL, one=one, other=other, thing=(1, (3,)))
        self.tells(shows_bar, False, box=SMALL, one=one, other=other, thing=(1, (2,)))
        self.tells(shows_road, False, box=SMALL, one=one, other=other, thing=[])

    def test_led(self):
        box = ((3, 0, 0), (2, 0, 1), (1, 1, 2))
        one, other = (3, 1, 2), (2, 1, 3)
        self.tells(leads, True, box=box, one=one, other=other)
        self.tells(bar, None, box=box, one=one, other=other)
        # The 1 steps aside to the end, the others change places, and it steps back: there's no other way without loops.
        self.tells(road, [1, 0, 1], box=box, one=one, other=other)
        self.tells(shows_road, True, box=box, one=one, other=other, thing=[1, 0, 1])

    def test_from_a_row_to_itself(self):
        for box in (SMALL, ((7, 0, 0),), whole_box((5, 2, 8, 0))):
            for row in rows_by_hand(box):
                self.tells(leads, True, box=box, one=row, other=row)
                self.tells(bar, None, box=box, one=row, other=row)
                self.tells(road, [], box=box, one=row, other=row)
                self.tells(shows_road, True, box=box, one=row, other=row, thing=[])
                self.tells(shows_road, False, box=box, one=row, other=row, thing=())

    def test_the_first_wall_goes(self):
        # The 1 has the 7, 6, 3 ahead in all rows; left of it the 3 is a wall, right of it the 2.
        box = ((7, 0, 0), (6, 0, 1), (5, 2, 2), (4, 2, 3), (3, 1, 1), (2, 4, 4), (1, 3, 3))
        one = (7, 3, 6, 1, 5, 2, 4)
        left, right, each = (6, 3, 7, 1, 5, 2, 4), (7, 3, 6, 1, 4, 2, 5), (6, 3, 7, 1, 4, 2, 5)
        for other, wanted, shown in (
                (left, (3, (7,)), [(3, (7,))]), (right, (2, (5,)), [(2, (5,))]),
                (each, (3, (7,)), [(3, (7,)), (2, (5,))])):
            self.tells(bar, wanted, box=box, one=one, other=other)
            self.refused(road, Barred, "who", wanted[0], box=box, one=one, other=other)
            for wall in ((1, (3, 6, 7)), (3, (7,)), (2, (5,)), (3, (6,)), (2, (4,))):
                self.tells(shows_bar, wall in shown, box=box, one=one, other=other, thing=wall)


class ShowsBar(Asking):
    def test_each_wall_first_or_not(self):
        others = 0
        for box in walled_boxes(random.Random(23), FOLK, 25):
            rows = rows_by_hand(box)
            for one, other in itertools.product(rows[::9], rows[::7]):
                mine = walls_within(walls_by_hand(box, one))
                its = walls_within(walls_by_hand(box, other))
                for wall in mine + its:
                    wanted = wall in mine and wall not in its
                    others += wanted and wall != bar(box, one, other)
                    self.assertIs(shows_bar(box, one, other, wall), wanted, (box, one, other, wall))
        self.assertGreater(others, 0)

    def test_nothing_else(self):
        one, other = (3, 1, 2), (2, 1, 3)
        for thing in (
                *THINGS, [1, (3,)], [1, [3]], (1, [3]), (1,), (1, (3,), ()), (1, (3,), (), ()), (1, ()), (1, 3),
                (1, None), (1, (3, 3)), (1, (2, 3)), (1, (3, 2)), (2, (3,)), (3, (1,)), ("1", (3,)), (None, (3,)),
                ((1,), (3,)), (True, (3,)), ((3,), 1), ((1, (3,)),), [(1, (3,))], (1, ("3",)), (1, ((3,),)), "1 3",
                (1, "3")):
            self.tells(shows_bar, False, box=SMALL, one=one, other=other, thing=thing)

    def test_true_and_false_are_no_numbers(self):
        box = ((4, 0, 0), (1, 0, 1), (0, 1, 1))
        one, other = (1, 0, 4), (4, 0, 1)
        self.tells(shows_bar, True, box=box, one=one, other=other, thing=(0, (1,)))
        self.tells(shows_bar, False, box=box, one=one, other=other, thing=(False, (1,)))
        self.tells(shows_bar, False, box=box, one=one, other=other, thing=(0, (True,)))
        self.tells(shows_bar, False, box=box, one=one, other=other, thing=(False, (True,)))

    def test_of_rows_that_are_led_to_one_another(self):
        for box in walled_boxes(random.Random(24), FOLK, 25):
            rows = rows_by_hand(box)
            for one in rows[::9]:
                for other in lots_by_hand(box)[one][:4]:
                    for wall in walls_within(walls_by_hand(box, one)):
                        self.assertIs(shows_bar(box, one, other, wall), False)
                    self.assertIs(shows_bar(box, one, other, None), False)


class ShowsRoad(Asking):
    def test_all_lists_of_few_places(self):
        for box in (SMALL, ((3, 0, 0), (2, 0, 1), (1, 1, 2)), ((3, 0, 0), (2, 0, 1), (1, 0, 2)), ((7, 0, 0),)):
            for one, other in itertools.product(rows_by_hand(box), repeat=2):
                for many in range(5):
                    for steps in itertools.product(range(-1, 3), repeat=many):
                        wanted = led_by_hand(box, one, steps) == other
                        self.assertIs(shows_road(box, one, other, list(steps)), wanted, (box, one, other, steps))

    def test_nothing_else(self):
        box = whole_box((3, 2, 1))
        one, other, third = (3, 2, 1), (2, 3, 1), (3, 1, 2)
        for thing in ([0], [1, 1, 0], [0, 0, 0], [0, 1, 1]):
            self.tells(shows_road, True, box=box, one=one, other=other, thing=thing)
        for thing in ((0,), (1, 1, 0), [(0,)], [[0]], [0, None], ["0"], [None], [False], [0, "1"], "0", 0, False, None,
                      [0, 1, True], [True, 1, 0], [0, 0], [], [0, 2], [2, 0], [0, -1], [-2], [-3], [10 ** 5000],
                      ([0],)):
            self.tells(shows_road, False, box=box, one=one, other=other, thing=thing)
        self.tells(shows_road, True, box=box, one=one, other=third, thing=[1])
        for thing in ([True], (1,), [-1], [-2], "1", 1, True):
            self.tells(shows_road, False, box=box, one=one, other=third, thing=thing)
        # To this one lead two steps at the least.
        for thing in THINGS:
            self.tells(shows_road, thing == [0, 1], box=box, one=one, other=(2, 1, 3), thing=thing)

    def test_out_of_the_box_and_back(self):
        box = ((3, 0, 0), (2, 0, 1), (1, 1, 2))
        # The 1 would be ahead of both for a while.
        self.tells(shows_road, False, box=box, one=(3, 1, 2), other=(3, 1, 2), thing=[0, 0])
        self.tells(shows_road, True, box=box, one=(3, 1, 2), other=(3, 1, 2), thing=[1, 1])

    def test_a_long_one_in_good_time(self):
        box = whole_box(MANY)
        steps = [place % 23 for place in range(4000)]
        self.assertIs(shows_road(box, MANY, MANY, steps + steps[::-1]), True)
        self.assertIs(shows_road(box, MANY, MANY, steps + steps[::-1] + [0]), False)
        self.assertIs(shows_road(box, MANY, MANY, tuple(steps + steps[::-1])), False)


class TwelveFolk(Asking):
    def test_roads_in_good_time(self):
        chance = random.Random(25)
        folk = sorted(MANY, reverse=True)[:12]
        narrow = [[(who, max(0, least), least + 1) for least, who in zip(
            [-1] + [chance.randrange(place) for place in range(1, 12)], folk)] for _ in range(60)]
        for box in itertools.chain(some_boxes(chance, folk, 60), walled_boxes(chance, folk, 60), narrow):
            box = tuple(map(tuple, box))
            lot = lot_box(box, row_at(box, chance.randrange(how_many(box))))
            for _ in range(3):
                one = row_at(lot, chance.randrange(how_many(lot)))
                other = row_at(lot, chance.randrange(how_many(lot)))
                steps = road(box, one, other)
                self.assertEqual(led_by_hand(box, one, steps), other)
                self.assertIs(shows_road(box, one, other, steps), True)
                self.assertIs(leads(box, one, other), True)

    def test_the_longest_ways_of_all_orders(self):
        for many in (2, 5, 12):
            row = tuple(range(many))
            steps = road(whole_box(row), row, row[::-1])
            self.assertEqual(led_by_hand(whole_box(row), row, steps), row[::-1])

    def test_24_folk_are_led_or_kept_apart(self):
        chance = random.Random(26)
        barred = 0
        for box in walled_boxes(chance, sorted(MANY, reverse=True), 40):
            one, other = [row_at(box, chance.randrange(how_many(box))) for _ in range(2)]
            wanted = bar_by_hand(box, one, other)
            barred += wanted is not None
            self.assertEqual(bar(box, one, other), wanted)
            self.assertIs(leads(box, one, other), wanted is None)
        self.assertGreater(barred, 10)


class HandedIn(Asking):
    def test_however_it_is_asked(self):
        for box in itertools.islice(walled_boxes(random.Random(27), FOLK, 12), 12):
            rows = rows_by_hand(box)
            for one, other in ((rows[0], rows[-1]), (rows[-1], rows[0])):
                found = bar_by_hand(box, one, other)
                self.tells(leads, found is None, box=box, one=one, other=other)
                self.tells(bar, found, box=box, one=one, other=other)
                self.tells(shows_bar, found is not None, box=box, one=one, other=other, thing=found)
                self.tells(shows_bar, False, box=box, one=one, other=other, thing=as_lists(found))
                if found is not None:
                    self.refused(road, Barred, "who", found[0], box=box, one=one, other=other)
                    continue
                steps = road(box, one, other)
                self.tells(road, steps, box=box, one=one, other=other)
                self.tells(shows_road, True, box=box, one=one, other=other, thing=steps)
                self.tells(shows_road, False, box=box, one=one, other=other, thing=tuple(steps))


class IsOutside(Asking):
    def test_of_one_ahead_of_other(self):
        box = ((9, 0, 0), (4, 1, 1), (0, 0, 1))
        rows = [row for many in range(1, 4) for row in itertools.permutations((12, 9, 4, 0), many)]
        both = 0
        for one, other in itertools.product(rows, rows):
            wrong = [outside_told(box, row) for row in (one, other)]
            if wrong == [None, None]:
                continue
            who = wrong[1] if wrong[0] is None else wrong[0]
            both += None not in wrong and wrong[0] != wrong[1]
            for ask, thing in ((leads, ()), (bar, ()), (road, ()), (shows_bar, (None,)), (shows_road, (None,))):
                with self.assertRaises(Outside) as caught:
                    ask(box, one, other, *thing)
                self.assertEqual(caught.exception.who, who, (ask, one, other))
        self.assertGreater(both, 10)

    def test_however_it_is_asked(self):
        box, inside = ((9, 0, 0), (4, 1, 1), (0, 0, 1)), (9, 0, 4)
        for one, other, who in ((inside, (4, 9, 0), 4), ((4, 9, 0), inside, 4), ((9, 4, 0), (4, 9, 0), 0),
                                ((4, 9, 0), (9, 4, 0), 4), ((4, 9, 0), (4, 9, 0), 4), ((7,), (4, 9, 0), 9),
                                (inside, (9, 0, 4, 12), 12)):
            for ask in (leads, bar, road):
                self.refused(ask, Outside, "who", who, box=box, one=one, other=other)

    def test_whatever_thing_is(self):
        box, inside, outside = ((9, 0, 0), (4, 1, 1), (0, 0, 1)), (9, 0, 4), (4, 9, 0)
        for thing in THINGS:
            for one, other in ((inside, outside), (outside, inside), (outside, (9, 4, 0))):
                self.refused(shows_bar, Outside, "who", 4, box=box, one=one, other=other, thing=thing)
                self.refused(shows_road, Outside, "who", 4, box=box, one=one, other=other, thing=thing)


class Interface(Asking):
    def test_names_and_arguments(self):
        self.defined_in(module, {
            "leads": "box one other", "bar": "box one other", "shows_bar": "box one other thing",
            "road": "box one other", "shows_road": "box one other thing"})


if __name__ == "__main__":
    unittest.main()
