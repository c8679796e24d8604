"""What DOC.md promises over the whole program: its files and names, [2] of all functions, [3] of all bounds."""

import importlib
import inspect
import pathlib
import random
import time
import unittest

from balconyrow import boxes, counts, coming, desk, errors, gallery, houses, led, limits, lots, needs, places, rows
from balconyrow import seen, texts, walls, wander
from tests.common import MANY, Asking, exactly, seen_by_hand

FULL = tuple(range(1, 100))
FLOORS = ((1, 3, 7, 20), (2, 5, 99))

# Each file of the interface with its functions and their arguments.
INTERFACE = {
    "rows": {
        "is_row": "thing", "is_code": "thing", "folk_of": "row", "taller_ahead": "row who", "taller_behind": "row who",
        "code_of": "row", "row_of": "folk code", "turned": "row", "exchanged": "row place"},
    "houses": {
        "is_houses": "thing", "views": "row houses", "seen_by": "row houses who", "told_by": "row houses place"},
    "boxes": {
        "is_box": "thing", "is_in": "box row", "how_many": "box", "row_at": "box number", "number_of": "box row",
        "whole_box": "folk", "both": "box other", "all_in": "box"},
    "seen": {"box_of": "folk houses views", "box_seen": "row houses", "alike": "one other houses"},
    "places": {"places": "box who", "surely_ahead": "box", "who_may": "box place"},
    "wander": {"may_change": "box row", "changed": "box row place", "changed_all": "box row places"},
    "walls": {"walls": "box row", "shows_kept": "box row thing", "lot_box": "box row"},
    "led": {
        "leads": "box one other", "bar": "box one other", "shows_bar": "box one other thing", "road": "box one other",
        "shows_road": "box one other thing"},
    "lots": {"lots_many": "box", "lots": "box", "first_of_lot": "box row", "lot_size": "box row", "movers": "box row"},
    "counts": {
        "views_many": "many houses", "rows_seeing": "many left right * mine its", "most_rows": "many houses",
        "known_rows": "many houses"},
    "needs": {
        "needs_to_know": "row", "needs_to_watch": "row", "unmet": "needs houses", "fewest": "needs",
        "floors_for": "needs", "apart": "needs", "shows_floors": "needs thing", "shows_apart": "needs thing"},
    "coming": {
        "come": "row who * place", "gone": "row who", "seen_otherwise": "row houses who * place",
        "quiet_places": "row houses who"},
    "texts": {"row_text": "row", "row_in": "text", "houses_text": "houses", "houses_in": "text"},
    "desk": {"answers": "text"},
}

REFUSALS = {
    "Outside": (ValueError, "who"), "Unlike": (ValueError, None), "NoView": (ValueError, "who"),
    "Known": (ValueError, "who"), "BadText": (ValueError, "at"), "BadRow": (ValueError, "number"),
    "NoSide": (ValueError, "side"), "NoOne": (LookupError, "who"), "NoPlace": (LookupError, "place"),
    "NoRow": (LookupError, "number"), "NoFloor": (LookupError, "floor"), "NoDeed": (LookupError, "many"),
    "Held": (RuntimeError, "who"), "Barred": (RuntimeError, "who"), "Seen": (RuntimeError, "place"),
    "Stands": (RuntimeError, "floor"), "Last": (RuntimeError, None), "TooMany": (OverflowError, "many")}

SMALL = ((3, 0, 0), (2, 0, 1), (1, 1, 1))
WIDE = ((3, 0, 0), (2, 0, 1), (1, 1, 2))
NEEDS = [(1, 1), (1, 2), (2, 1)]

# One answer of each function, written out.
ANSWERS = (
    (rows.is_row, True, {"thing": (3, 1)}), (rows.is_code, True, {"thing": (0, 1)}),
    (rows.folk_of, (8, 6, 4), {"row": (4, 8, 6)}), (rows.taller_ahead, 1, {"row": (4, 8, 6), "who": 6}),
    (rows.taller_behind, 2, {"row": (4, 8, 6), "who": 4}), (rows.code_of, (0, 1, 0), {"row": (4, 8, 6)}),
    (rows.row_of, (4, 8, 6), {"folk": (8, 6, 4), "code": (0, 1, 0)}), (rows.turned, (6, 8, 4), {"row": (4, 8, 6)}),
    (rows.exchanged, (4, 6, 8), {"row": (4, 8, 6), "place": 1}),
    (houses.is_houses, True, {"thing": ((1,), (2, 3))}),
    (houses.views, (((4, 8),), ((6, 8),)), {"row": (4, 8, 6), "houses": ((1,), (1,))}),
    (houses.seen_by, (1, 0), {"row": (4, 8, 6), "houses": ((1,), (1,)), "who": 4}),
    (houses.told_by, [("left", 1)], {"row": (4, 8, 6), "houses": ((1,), (1,)), "place": 0}),
    (boxes.is_box, True, {"thing": SMALL}), (boxes.is_in, True, {"box": SMALL, "row": (3, 1, 2)}),
    (boxes.how_many, 2, {"box": SMALL}), (boxes.row_at, (2, 1, 3), {"box": SMALL, "number": 0}),
    (boxes.number_of, 1, {"box": SMALL, "row": (3, 1, 2)}),
    (boxes.whole_box, ((5, 0, 0), (2, 0, 1)), {"folk": (2, 5)}), (boxes.both, SMALL, {"box": SMALL, "other": WIDE}),
    (boxes.all_in, [(2, 1, 3), (3, 1, 2)], {"box": SMALL}),
    (seen.box_of, ((9, 0, 0), (4, 1, 1)), {"folk": (4, 9), "houses": ((1,), ()), "views": (((9,),), ())}),
    (seen.box_seen, ((9, 0, 0), (4, 1, 1)), {"row": (9, 4), "houses": ((1,), ())}),
    (seen.alike, True, {"one": (4, 9), "other": (9, 4), "houses": ((), ())}),
    (places.places, [1], {"box": SMALL, "who": 1}), (places.surely_ahead, [], {"box": WIDE}),
    (places.who_may, [2, 3], {"box": SMALL, "place": 0}),
    (wander.may_change, [1], {"box": WIDE, "row": (3, 1, 2)}),
    (wander.changed, (3, 2, 1), {"box": WIDE, "row": (3, 1, 2), "place": 1}),
    (wander.changed_all, (2, 3, 1), {"box": WIDE, "row": (3, 1, 2), "places": (1, 0)}),
    (walls.walls, (1, (3,), (), ()), {"box": SMALL, "row": (3, 1, 2)}),
    (walls.shows_kept, True, {"box": SMALL, "row": (3, 1, 2), "thing": (1, (3,), (), ())}),
    (walls.lot_box, ((3, 0, 0), (2, 1, 1), (1, 1, 1)), {"box": SMALL, "row": (3, 1, 2)}),
    (led.leads, False, {"box": SMALL, "one": (3, 1, 2), "other": (2, 1, 3)}),
    (led.bar, (1, (3,)), {"box": SMALL, "one": (3, 1, 2), "other": (2, 1, 3)}),
    (led.shows_bar, True, {"box": SMALL, "one": (3, 1, 2), "other": (2, 1, 3), "thing": (1, (3,))}),
    (led.road, [1, 0, 1], {"box": WIDE, "one": (3, 1, 2), "other": (2, 1, 3)}),
    (led.shows_road, True, {"box": WIDE, "one": (3, 1, 2), "other": (2, 1, 3), "thing": [1, 0, 1]}),
    (lots.lots_many, 2, {"box": SMALL}), (lots.lots, [WIDE], {"box": WIDE}),
    (lots.first_of_lot, (2, 1, 3), {"box": WIDE, "row": (3, 1, 2)}),
    (lots.lot_size, 4, {"box": WIDE, "row": (3, 1, 2)}), (lots.movers, [1, 2, 3], {"box": WIDE, "row": (3, 1, 2)}),
    (counts.views_many, 4, {"many": 3, "houses": ((1,), ())}),
    (counts.rows_seeing, 1, {"many": 3, "left": 1, "right": 1, "mine": 3, "its": 1}),
    (counts.most_rows, 2, {"many": 3, "houses": ((1,), ())}), (counts.known_rows, 2, {"many": 3, "houses": ((1,), ())}),
    (needs.needs_to_know, NEEDS, {"row": (2, 1, 3)}), (needs.needs_to_watch, NEEDS[1:], {"row": (2, 1, 3)}),
    (needs.unmet, [(2, 1)], {"needs": NEEDS, "houses": ((1,), ())}), (needs.fewest, 2, {"needs": NEEDS}),
    (needs.floors_for, ((4,), ()), {"needs": [(4, 7), (4, 8)]}), (needs.apart, [(4, 7)], {"needs": [(4, 7), (4, 7)]}),
    (needs.shows_floors, True, {"needs": NEEDS, "thing": ((1,), (1,))}),
    (needs.shows_apart, True, {"needs": NEEDS, "thing": [(2, 1), (1, 2)]}),
    (coming.come, (4, 5, 8), {"row": (4, 8), "who": 5, "place": 1}), (coming.gone, (8,), {"row": (4, 8), "who": 4}),
    (coming.seen_otherwise, [4], {"row": (4, 8), "houses": ((1,), ()), "who": 5, "place": 0}),
    (coming.quiet_places, [1, 2], {"row": (4, 8), "houses": ((1,), ()), "who": 5}),
    (texts.row_text, "4 8", {"row": (4, 8)}), (texts.row_in, (4, 8), {"text": "4 8"}),
    (texts.houses_text, "1 : 2", {"houses": ((1,), (2,))}), (texts.houses_in, ((1,), (2,)), {"text": "1 : 2"}),
    (desk.answers, ["1 2"], {"text": "row 1 2\nrow"}),
)


class Interface(Asking):
    def test_each_function_stands_in_its_file(self):
        for name, functions in INTERFACE.items():
            self.defined_in(importlib.import_module("balconyrow." + name), functions)
        self.assertEqual(gallery.Gallery.__module__, "balconyrow.gallery")

    def test_each_function_is_asked_below(self):
        listed = {(name, function) for name, functions in INTERFACE.items() for function in functions}
        asked = {(ask.__module__.split(".")[1], ask.__name__) for ask, _, _ in ANSWERS}
        self.assertEqual(asked, listed)

    def test_each_refusal(self):
        defined = {name: thing for name, thing in vars(errors).items() if inspect.isclass(thing)}
        self.assertEqual(set(defined), set(REFUSALS))
        for name, (base, field) in REFUSALS.items():
            self.assertEqual(defined[name].__bases__, (base,))
            if field is None:
                self.assertIs(type(defined[name]()), defined[name])
            else:
                self.assertEqual(getattr(defined[name](7), field), 7)
                self.assertEqual(getattr(defined[name](**{field: "x"}), field), "x")

    def test_limits(self):
        self.assertTrue(exactly((limits.MOST_LOTS, limits.MOST_ROWS), (100, 500)))

    def test_no_clock_no_chance_no_files(self):
        folder = pathlib.Path(rows.__file__).parent
        for path in folder.glob("*.py"):
            for row in path.read_text().split("\n"):
                if row.startswith(("import ", "from ")):
                    self.assertRegex(row, r"^from balconyrow\.[a-z]+ import ")


class HandedIn(Asking):
    def test_by_places_and_names_of_tuples_and_lists_and_again(self):
        for ask, wanted, handed in ANSWERS:
            self.tells(ask, wanted, **handed)


class ManyFolk(Asking):
    def test_24_folk_with_floors_at_both_ends(self):
        chance = random.Random(90)
        begin = time.perf_counter()
        for floors in (FLOORS, (FULL, ()), ((), FULL), ((12,), (12,)), (FULL[::5], FULL[::7]), (FULL, FULL)):
            for row in (MANY, tuple(chance.sample(MANY, 24)), tuple(sorted(MANY)), tuple(sorted(MANY)[::-1])):
                self.gone_through(chance, row, floors)
        self.assertLess(time.perf_counter() - begin, 60)

    def gone_through(self, chance, row, floors):
        """All functions of stages 1 to 9, each beside what the others tell."""
        folk, code = rows.folk_of(row), rows.code_of(row)
        self.assertIs(rows.is_row(row) and rows.is_code(code), True)
        self.assertEqual(rows.row_of(folk, code), row)
        self.assertEqual([rows.taller_ahead(row, who) for who in folk], list(code))
        self.assertEqual([rows.taller_behind(rows.turned(row), who) for who in folk], list(code))
        views = houses.views(row, floors)
        self.assertEqual(views, tuple(
            tuple(tuple(sorted(those)) for those in side) for side in seen_by_hand(row, floors)))
        for who in chance.sample(row, 4):
            self.assertEqual(
                houses.seen_by(row, floors, who), tuple(sum(who in those for those in side) for side in views))
        box = seen.box_seen(row, floors)
        self.assertEqual(seen.box_of(list(row), floors, views), box)
        self.assertIs(boxes.is_box(box) and boxes.is_in(box, row), True)
        self.assertEqual(boxes.row_at(box, boxes.number_of(box, row)), row)
        self.assertEqual(boxes.both(box, boxes.whole_box(row)), box)
        self.assertLessEqual(boxes.how_many(box), counts.most_rows(24, floors))
        other = boxes.row_at(box, chance.randrange(boxes.how_many(box)))
        self.assertIs(seen.alike(row, other, floors), True)
        self.wandered(chance, box, row, floors)
        self.led_or_not(box, row, other)
        self.placed(chance, box, other)
        self.needed(row, floors, box)

    def wandered(self, chance, box, row, floors):
        quiet = [place for place in range(23) if houses.told_by(row, floors, place) == []]
        self.assertEqual(wander.may_change(box, row), quiet)
        for place in quiet:
            after = rows.exchanged(row, place)
            self.assertEqual(wander.changed(box, row, place), after)
            self.assertEqual(wander.changed_all(box, row, [place, place]), row)
            self.assertIs(led.leads(box, row, after), True)

    def led_or_not(self, box, row, other):
        mine, its = walls.walls(box, row), walls.walls(box, other)
        self.assertIs(led.leads(box, row, other), mine == its)
        self.assertIs(walls.shows_kept(box, row, mine), True)
        found = led.bar(box, row, other)
        self.assertIs(led.shows_bar(box, row, other, found), mine != its)
        self.assertIs(boxes.is_in(walls.lot_box(box, row), other), mine == its)
        lot = walls.lot_box(box, row)
        self.assertEqual(lots.lot_size(box, row), boxes.how_many(lot))
        self.assertEqual(boxes.number_of(lot, lots.first_of_lot(box, row)), 0)
        self.assertLessEqual(set(lots.movers(box, row)), set(row))
        self.assertIs(led.shows_road(box, row, row, []), True)

    def placed(self, chance, box, other):
        sure = set(places.surely_ahead(box))
        for at, who in chance.sample(list(enumerate(other)), 4):
            self.assertIn(at, places.places(box, who))
            self.assertIn(who, places.who_may(box, at))
            for behind in other[at + 1:]:
                self.assertNotIn((behind, who), sure)

    def needed(self, row, floors, box):
        know, watch = needs.needs_to_know(row), needs.needs_to_watch(row)
        self.assertEqual(needs.unmet(know, floors) == [], boxes.how_many(box) == 1)
        self.assertEqual(needs.unmet(watch, floors) == [], wander.may_change(box, row) == [])
        for some in (know, watch):
            self.assertIs(needs.shows_floors(some, needs.floors_for(some)), True)
            self.assertIs(needs.shows_apart(some, needs.apart(some)), True)
            self.assertEqual(needs.fewest(some), len(needs.apart(some)))
        self.assertGreaterEqual(counts.views_many(24, floors), counts.known_rows(24, floors))
        total = sum(counts.rows_seeing(24, 3, 2, mine=mine, its=24) for mine in range(25))
        self.assertGreaterEqual(total, 0)

    def test_roads_of_twelve(self):
        chance = random.Random(91)
        for _ in range(20):
            row = tuple(chance.sample(range(100), 12))
            box = seen.box_seen(row, ((2, 5), (1, 4)))
            lot = walls.lot_box(box, row)
            other = boxes.row_at(lot, chance.randrange(boxes.how_many(lot)))
            steps = led.road(box, row, other)
            self.assertEqual(wander.changed_all(box, row, steps), other)
            begun = gallery.Gallery(row, houses=((2, 5), (1, 4)))
            begun.sneak(steps)
            self.assertEqual(begun.row(), other)


if __name__ == "__main__":
    unittest.main()
