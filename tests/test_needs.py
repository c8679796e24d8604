"""Needs, and floors enough: [14], and promise (d) of [1]."""

import itertools
import random
import time
import unittest

from balconyrow import needs as module
from balconyrow.boxes import how_many
from balconyrow.houses import is_houses, told_by
from balconyrow.needs import (
    apart, fewest, floors_for, needs_to_know, needs_to_watch, shows_apart, shows_floors, unmet)
from balconyrow.seen import box_seen
from tests.common import MANY, THINGS, Asking, as_lists, as_tuples, by_turns, seen_by_hand

NEEDS = (
    [], [(1, 1)], [(1, 1), (1, 1)], [(1, 1), (1, 2)], [(1, 1), (2, 1)], [(1, 2), (2, 1)], [(2, 2), (1, 1), (2, 2)],
    [(1, 1), (1, 2), (2, 1)], [(1, 1), (1, 2), (2, 1), (2, 2)], [(3, 1), (1, 3), (3, 3), (2, 2)],
    [(99, 1), (1, 99), (99, 99)], [(5, 5), (4, 5), (5, 4), (4, 4), (3, 5)], [(1, 2), (2, 3), (3, 4), (4, 1)])


def all_houses(greatest):
    sides = [side for many in range(greatest + 1) for side in itertools.combinations(range(1, greatest + 1), many)]
    return list(itertools.product(sides, sides))


def meet(need, houses):
    return need[0] in houses[0] or need[1] in houses[1]


def fewest_by_hand(needs):
    """The fewest floors out of all choices of those that the needs name."""
    lefts, rights = sorted({left for left, _ in needs}), sorted({right for _, right in needs})
    floors = [("left", left) for left in lefts] + [("right", right) for right in rights]
    for many in range(len(floors) + 1):
        for chosen in itertools.combinations(floors, many):
            if all(("left", left) in chosen or ("right", right) in chosen for left, right in needs):
                return many
    return None


def some_needs(chance, many, greatest):
    return [(chance.randint(1, greatest), chance.randint(1, greatest)) for _ in range(many)]


def no_two_alike(pairs):
    return all(len({pair[side] for pair in pairs}) == len(pairs) for side in (0, 1))


def rows_of_few():
    for many in range(1, 5):
        yield from itertools.permutations((9, -4, 3, 0)[:many])
    yield from list(itertools.permutations((9, -4, 3, 0, 1)))[::29]


class FromARow(Asking):
    def test_needs_to_know_against_all_houses(self):
        for row in rows_of_few():
            needs = needs_to_know(row)
            orders = list(itertools.permutations(row))
            for houses in all_houses(len(row)) if len(row) < 4 else all_houses(4)[::7]:
                mine = seen_by_hand(row, houses)
                known = [other for other in orders if seen_by_hand(other, houses) == mine] == [row]
                self.assertEqual(all(meet(need, houses) for need in needs), known, (row, houses))

    def test_needs_to_watch_against_all_houses(self):
        for row in rows_of_few():
            needs = needs_to_watch(row)
            for houses in all_houses(max(len(row), 2) if len(row) < 5 else 5):
                watched = all(told_by(row, houses, place) for place in range(len(row) - 1))
                self.assertEqual(all(meet(need, houses) for need in needs), watched, (row, houses))

    def test_watched_by_views_by_hand(self):
        for row in list(rows_of_few())[::5]:
            for houses in all_houses(3)[::3]:
                mine = seen_by_hand(row, houses)
                unseen = False
                for place in range(len(row) - 1):
                    other = row[:place] + (row[place + 1], row[place]) + row[place + 2:]
                    unseen = unseen or seen_by_hand(other, houses) == mine
                self.assertEqual(all(meet(need, houses) for need in needs_to_watch(row)), not unseen)

    def test_none_is_needless(self):
        for row in rows_of_few():
            for needs in (needs_to_know(row), needs_to_watch(row)):
                for need in needs:
                    left, right = need
                    # All floors but those two: every other need is met.
                    houses = (tuple(set(range(1, 9)) - {left}), tuple(set(range(1, 9)) - {right}))
                    self.assertEqual([one for one in needs if not meet(one, houses)], [need])

    def test_rising_without_one_twice(self):
        chance = random.Random(50)
        for _ in range(60):
            row = chance.sample(range(-100, 100), chance.randrange(1, 25))
            for needs in (needs_to_know(row), needs_to_watch(row)):
                self.assertEqual(needs, sorted(set(needs)))
                self.assertTrue(all(type(need) is tuple and min(need) >= 1 for need in needs))
            self.assertLessEqual(set(needs_to_watch(row)), set(needs_to_know(row)))

    def test_as_written_out(self):
        for row, know, watch in (
                ((7,), [], []), ((1, 2), [(1, 1)], [(1, 1)]), ((2, 1), [(1, 1)], [(1, 1)]),
                # The 2 has the 3 behind; the 1 both behind.
                ((1, 2, 3), [(1, 1), (1, 2)], [(1, 1), (1, 2)]),
                # The 1 has one on either side: it's to be told from none ahead and from both.
                ((2, 1, 3), [(1, 1), (1, 2), (2, 1)], [(1, 2), (2, 1)]),
                ((3, 2, 1), [(1, 1), (2, 1)], [(1, 1), (2, 1)])):
            self.tells(needs_to_know, know, row=row)
            self.tells(needs_to_watch, watch, row=row)

    def test_24_folk_by_the_box(self):
        chance = random.Random(51)
        for row in (MANY, tuple(sorted(MANY)), tuple(sorted(MANY, reverse=True)), tuple(chance.sample(MANY, 24))):
            for needs in (needs_to_know(row), needs_to_watch(row)):
                self.assertLessEqual(len(needs), 46)
            known = floors_for(needs_to_know(row))
            self.assertEqual(how_many(box_seen(row, known)), 1)
            watched = floors_for(needs_to_watch(row))
            self.assertNotIn([], [told_by(row, watched, place) for place in range(23)])
            for needs, houses in ((needs_to_know(row), known), (needs_to_watch(row), watched)):
                for side in (0, 1):
                    for floor in houses[side]:
                        less = [list(floors) for floors in houses]
                        less[side].remove(floor)
                        self.assertNotEqual(unmet(needs, less), [])

    def test_one_floor_less_and_it_is_not_known(self):
        for row in rows_of_few():
            least = min(sum(map(len, houses)) for houses in all_houses(4)
                        if how_many(box_seen(row, houses)) == 1)
            self.assertEqual(fewest(needs_to_know(row)), least)


class Unmet(Asking):
    def test_in_their_order(self):
        needs = [(3, 1), (1, 2), (3, 1), (2, 2), (1, 9)]
        for houses, wanted in (
                (((), ()), needs), (((1,), ()), [(3, 1), (3, 1), (2, 2)]), (((), (1,)), [(1, 2), (2, 2), (1, 9)]),
                (((3,), (2,)), [(1, 9)]), (((2, 3), (2, 9)), []), (((2, 9), (3, 9)), [(3, 1), (1, 2), (3, 1)])):
            self.tells(unmet, wanted, needs=needs, houses=houses)

    def test_of_none(self):
        self.tells(unmet, [], needs=[], houses=((), ()))
        self.tells(unmet, [], needs=[], houses=((1,), (2,)))

    def test_by_hand(self):
        chance = random.Random(52)
        for _ in range(100):
            needs = some_needs(chance, chance.randrange(8), 4)
            for houses in chance.sample(all_houses(4), 3):
                self.assertEqual(unmet(needs, houses), [need for need in needs if not meet(need, houses)])


class Fewest(Asking):
    def looked_at(self, needs):
        """What fewest, floors_for and apart tell of these needs fits, and neither beats the other."""
        many, houses, pairs = fewest(needs), floors_for(needs), apart(needs)
        self.assertIs(is_houses(houses), True)
        self.assertEqual(sum(map(len, houses)), many)
        self.assertTrue(all(meet(need, houses) for need in needs), needs)
        self.assertIs(type(pairs), list)
        self.assertTrue(all(type(pair) is tuple for pair in pairs))
        self.assertEqual(len(pairs), many)
        self.assertTrue(no_two_alike(pairs))
        self.assertLessEqual(set(pairs), set(as_tuples(needs)))
        self.assertIs(shows_floors(needs, houses), True)
        self.assertIs(shows_apart(needs, pairs), True)
        return many

    def test_against_all_choices(self):
        chance = random.Random(53)
        for needs in (*NEEDS, *[some_needs(chance, chance.randrange(9), 5) for _ in range(150)]):
            self.assertEqual(self.looked_at(needs), fewest_by_hand(needs), needs)

    def test_all_sets_of_needs_of_three_floors(self):
        pairs = list(itertools.product((1, 2, 3), repeat=2))
        for many in range(len(pairs) + 1):
            for needs in itertools.combinations(pairs, many):
                self.assertEqual(self.looked_at(needs), fewest_by_hand(needs), needs)

    def test_as_written_out(self):
        for needs, wanted in zip(NEEDS, (0, 1, 1, 1, 1, 2, 2, 2, 2, 3, 2, 2, 4)):
            self.tells(fewest, wanted, needs=needs)
        self.tells(floors_for, ((), ()), needs=[])
        self.tells(apart, [], needs=[])
        self.tells(apart, [(4, 7)], needs=[(4, 7), (4, 7)])
        # One floor meets all.
        self.tells(floors_for, ((4,), ()), needs=[(4, 7), (4, 8)])
        self.tells(floors_for, ((), (7,)), needs=[(4, 7), (5, 7)])

    def test_a_hundred_needs_in_good_time(self):
        chance = random.Random(54)
        begin = time.perf_counter()
        for greatest in (99, 99, 60, 30, 12, 9):
            needs = some_needs(chance, 100, greatest)
            self.assertEqual(self.looked_at(needs), self.looked_at(needs[::-1]))
        # A ladder: each need shares a floor with the one ahead and the one behind.
        for order in (1, -1):
            ladder = [((at + 1) // 2 + 1, at // 2 + 1) for at in range(100)][::order]
            self.looked_at(ladder)
            chance.shuffle(ladder)
            self.looked_at(ladder)
        self.assertEqual(fewest([(at, 100 - at) for at in range(1, 100)]), 99)
        self.assertEqual(fewest([(1, at) for at in range(1, 100)]), 1)
        self.assertLess(time.perf_counter() - begin, 20)

    def test_a_ladder_one_above_the_other(self):
        # Each left has its own right and the next one's, and is handed in so that all must give way.
        ladder = [pair for at in range(1, 50) for pair in ((at, at + 1), (at, at))]
        self.assertEqual(self.looked_at([*ladder, (50, 1)]), 50)


class ShowsFloors(Asking):
    def test_just_houses_that_meet_all(self):
        for needs in NEEDS:
            for houses in all_houses(3):
                wanted = all(meet(need, houses) for need in needs)
                self.assertIs(shows_floors(needs, houses), wanted, (needs, houses))

    def test_fewest_or_not(self):
        for houses in (((1,), ()), ((), (1,)), ((1,), (1,)), ((1, 2, 50), (7,)), ((), (1, 10 ** 5000))):
            self.tells(shows_floors, True, needs=[(1, 1)], thing=houses)
        for houses in (((), ()), ((2,), ()), ((), (2,)), ((2, 3), (2, 3))):
            self.tells(shows_floors, False, needs=[(1, 1)], thing=houses)

    def test_nothing_else(self):
        for thing in (*THINGS, [(1,), ()], ([1], ()), ((1,), []), [[1], []], ((1,),), ((1,), (), ()), ((1, 1), ()),
                      ((2, 1), ()), ((0, 1), ()), ((-1, 1), ()), ((True,), ()), ((), (True,)), ((1, "2"), ()),
                      ((1, None), ()), (1, 1), ("1", ""), ((1,), None), ((1,), ""), ((1,), 0), (((1,),), ()), "1 :",
                      ((1, False), ()), ((1, (2,)), ())):
            self.tells(shows_floors, False, needs=[(1, 1)], thing=thing)

    def test_of_no_needs(self):
        for thing in THINGS:
            self.tells(shows_floors, thing == ((), ()), needs=[], thing=thing)
        self.tells(shows_floors, True, needs=[], thing=((3,), (1, 2)))
        self.tells(shows_floors, False, needs=[], thing=((3,), (2, 1)))


class ShowsApart(Asking):
    def test_all_lists_of_few_needs(self):
        pairs = list(itertools.product((1, 2, 3), repeat=2))
        for needs in NEEDS:
            for many in range(4):
                for chosen in itertools.product(pairs[::2] + pairs[1:2], repeat=many):
                    wanted = all(pair in needs for pair in chosen) and no_two_alike(chosen)
                    self.assertIs(shows_apart(needs, list(chosen)), wanted, (needs, chosen))

    def test_fewest_or_not(self):
        needs = [(1, 1), (1, 2), (2, 1), (3, 3), (3, 3)]
        for thing in ([], [(1, 1)], [(3, 3)], [(3, 3), (1, 1)], [(2, 1), (1, 2)], [(2, 1), (3, 3), (1, 2)]):
            self.tells(shows_apart, True, needs=needs, thing=thing)
        for thing in ([(1, 1), (1, 1)], [(3, 3), (3, 3)], [(1, 1), (1, 2)], [(1, 1), (2, 1)], [(2, 2)], [(1, 3)],
                      [(1, 1), (2, 2)], [(1, 2), (2, 1), (3, 3), (4, 4)]):
            self.tells(shows_apart, False, needs=needs, thing=thing)

    def test_nothing_else(self):
        for thing in THINGS:
            self.tells(shows_apart, exactly_bare_list(thing), needs=[(1, 1), (2, 3)], thing=thing)
            self.tells(shows_apart, exactly_bare_list(thing), needs=[], thing=thing)
        for thing in (((2, 3),), [[2, 3]], [(2, 3), [1, 1]], [(1, True)], [(True, 1)], [(True, True)], [(2, 3), None],
                      [(2, 3, 3)], [(2,)], [()], [("2", "3")], "23", ["23"], [(2, 3), "11"], [((2,), 3)], (2, 3),
                      [2, 3], [(3, 2)], [None], [((2, 3),)], [[(2, 3)]], [(2, "3")], [(2, None)], [(2, [3])]):
            self.tells(shows_apart, False, needs=[(1, 1), (2, 3)], thing=thing)


def exactly_bare_list(thing):
    return isinstance(thing, list) and thing == []


class HandedIn(Asking):
    def test_however_it_is_asked(self):
        chance = random.Random(55)
        for needs in (*NEEDS, *[some_needs(chance, chance.randrange(9), 5) for _ in range(10)]):
            self.tells(fewest, fewest_by_hand(needs), needs=needs)
            # Which is told isn't promised, but it's the same however the needs are handed in.
            self.tells(floors_for, floors_for(needs), needs=needs)
            self.tells(apart, apart(needs), needs=needs)
            for shape in (as_tuples, as_lists, by_turns):
                self.assertTrue(all(type(pair) is tuple for pair in apart(shape(needs))))
                self.assertTrue(all(type(pair) is tuple for pair in unmet(shape(needs), [[], ()])))
            for houses in (((), ()), ((1, 3), (2,)), ((4,), (1, 5))):
                wanted = [need for need in needs if not meet(need, houses)]
                self.tells(unmet, wanted, needs=needs, houses=houses)
                self.tells(shows_floors, wanted == [], needs=needs, thing=houses)
            self.tells(shows_apart, True, needs=needs, thing=apart(needs))
            self.tells(shows_apart, False, needs=needs, thing=tuple(apart(needs)))

    def test_rows(self):
        for row in list(rows_of_few())[::3]:
            self.tells(needs_to_know, needs_to_know(row), row=row)
            self.tells(needs_to_watch, needs_to_watch(row), row=row)


class Interface(Asking):
    def test_names_and_arguments(self):
        self.defined_in(module, {
            "needs_to_know": "row", "needs_to_watch": "row", "unmet": "needs houses", "fewest": "needs",
            "floors_for": "needs", "apart": "needs", "shows_floors": "needs thing", "shows_apart": "needs thing"})


if __name__ == "__main__":
    unittest.main()
