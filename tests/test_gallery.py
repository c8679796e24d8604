"""A gallery over deeds, refused and undone ones among them: [16], [17], and promise (e) of [1]."""

import itertools
import random
import unittest

from balconyrow import errors
from balconyrow import gallery as module
from balconyrow.errors import Known, Last, NoDeed, NoFloor, NoOne, NoPlace, NoSide, Seen, Stands
from balconyrow.gallery import Gallery
from balconyrow.houses import views
from balconyrow.led import leads
from balconyrow.seen import box_seen
from balconyrow.walls import lot_box, walls
from balconyrow.wander import may_change
from tests.common import Asking, exactly, lists_within, names_alone, names_placed, seen_by_hand, swapped, walls_by_hand

FULL = tuple(range(1, 100))
SIDES = ("left", "right")


class Plain:
    """A gallery counted by hand: the list of all that stood, and what each deed tells or is refused with."""

    def __init__(self, row, houses):
        self.stood = [(tuple(row), tuple(map(tuple, houses)))]
        self.noted = []

    def deed(self, word, *parts):
        """Told: ("told", what), or ("refused", class, field, value)."""
        self.noted += [("in", word), ("out", word)]
        if word == "undo":
            if len(self.stood) == 1:
                return ("told", False)
            self.stood.pop()
            return ("told", True)
        row, houses = self.stood[-1]
        told = getattr(self, word)(row, houses, *parts)
        if told[0] == "refused":
            return told
        told, row, houses = told
        self.stood.append((row, houses))
        return ("told", told)

    def change(self, row, houses, place):
        if not 0 <= place < len(row) - 1:
            return ("refused", NoPlace, "place", place)
        after = swapped(row, place)
        return telling(row, after, houses), after, houses

    def come(self, row, houses, who, place):
        if who in row:
            return ("refused", Known, "who", who)
        if not 0 <= place <= len(row):
            return ("refused", NoPlace, "place", place)
        after = (*row[:place], who, *row[place:])
        return unlike(row, after, houses, who), after, houses

    def go(self, row, houses, who):
        if who not in row:
            return ("refused", NoOne, "who", who)
        if len(row) == 1:
            return ("refused", Last, None, None)
        after = tuple(one for one in row if one != who)
        return unlike(row, after, houses, who), after, houses

    def build(self, row, houses, side, floor):
        if side not in SIDES:
            return ("refused", NoSide, "side", side)
        floors = houses[SIDES.index(side)]
        if floor in floors:
            return ("refused", Stands, "floor", floor)
        more = tuple(sorted((*floors, floor)))
        order = row if side == "left" else row[::-1]
        told = [who for at, who in enumerate(order) if sum(one > who for one in order[:at]) < floor]
        return tuple(sorted(told)), row, (more, houses[1]) if side == "left" else (houses[0], more)

    def pull(self, row, houses, side, floor):
        if side not in SIDES:
            return ("refused", NoSide, "side", side)
        floors = houses[SIDES.index(side)]
        if floor not in floors:
            return ("refused", NoFloor, "floor", floor)
        fewer = tuple(one for one in floors if one != floor)
        return None, row, (fewer, houses[1]) if side == "left" else (houses[0], fewer)

    def sneak(self, row, houses, places):
        for place in places:
            if not 0 <= place < len(row) - 1:
                return ("refused", NoPlace, "place", place)
            if telling(row, swapped(row, place), houses):
                return ("refused", Seen, "place", place)
            row = swapped(row, place)
        return None, row, houses


def telling(row, after, houses):
    """All floors that see others in one row than in the other."""
    told = []
    for side, floors, old, new in zip(SIDES, houses, seen_by_hand(row, houses), seen_by_hand(after, houses)):
        told += [(side, floor) for floor, mine, its in zip(floors, old, new) if mine != its]
    return told


def unlike(row, after, houses, who):
    """All but who whom some floor sees in one row and not in the other."""
    told = set()
    for old, new in zip(seen_by_hand(row, houses), seen_by_hand(after, houses)):
        for mine, its in zip(old, new):
            told |= (mine ^ its) - {who}
    return sorted(told)


def do(gallery, word, *parts):
    """A deed done as Plain tells it."""
    try:
        if word == "come":
            return ("told", gallery.come(parts[0], place=parts[1]))
        return ("told", getattr(gallery, word)(*parts))
    except tuple(REFUSED) as refusal:
        field = REFUSED[type(refusal)]
        return ("refused", type(refusal), field, getattr(refusal, field) if field else None)


REFUSED = {
    NoPlace: "place", Known: "who", NoOne: "who", Last: None, NoSide: "side", Stands: "floor", NoFloor: "floor",
    Seen: "place"}


def some_deed(chance, row, houses):
    """A deed by chance, as often refused as not."""
    word = chance.choice(("change", "change", "come", "go", "build", "build", "pull", "sneak", "sneak", "undo"))
    place = chance.randrange(-1, len(row) + 2)
    who = chance.choice((*row, *range(-3, 18)))
    side = chance.choice((*SIDES, *SIDES, *SIDES, "Left", "", "both"))
    floor = chance.choice((1, 2, 3, 4, 5, 6, 99, *houses[0], *houses[1]))
    if word == "sneak":
        places = [chance.randrange(-1, len(row)) for _ in range(chance.randrange(4))]
        quiet = [at for at in range(len(row) - 1) if not telling(row, swapped(row, at), houses)]
        return (word, [chance.choice(quiet)] * 3 if quiet and chance.random() < 0.6 else places)
    return (word, *{
        "change": (place,), "come": (who, place), "go": (who,), "build": (side, floor), "pull": (side, floor),
        "undo": ()}[word])


def floors_many(houses):
    return len(houses[0]) + len(houses[1])


class BesideAPlainCount(Asking):
    def same(self, gallery, plain):
        """All that a gallery tells is as it stands by hand."""
        row, houses = plain.stood[-1]
        self.assertTrue(exactly(gallery.row(), row), (gallery.row(), row))
        self.assertTrue(exactly(gallery.houses(), houses), (gallery.houses(), houses))
        self.assertTrue(exactly(gallery.views(), tuple(
            tuple(tuple(sorted(seen)) for seen in side) for side in seen_by_hand(row, houses))))
        self.assertTrue(exactly(gallery.deeds(), len(plain.stood) - 1))
        self.assertTrue(exactly(gallery.log(), plain.noted))
        self.assertEqual(len(gallery), len(row))
        self.assertEqual(repr(gallery), f"Gallery({len(row)} folk, {floors_many(houses)} floors)")

    def asked(self, gallery, plain):
        """What is asked of the row and houses at that moment."""
        row, houses = plain.stood[-1]
        box = box_seen(row, houses)
        self.assertTrue(exactly(gallery.box(), box))
        self.assertTrue(exactly(gallery.walls(), walls_by_hand(box, row)))
        self.assertTrue(exactly(gallery.walls(), walls(box, row)))
        self.assertTrue(exactly(gallery.lot(), lot_box(box, row)))
        quiet = [at for at in range(len(row) - 1) if not telling(row, swapped(row, at), houses)]
        self.assertTrue(exactly(gallery.may(), quiet))
        self.assertTrue(exactly(gallery.may(), may_change(box, row)))
        self.assertIs(gallery.may_be(row), True)
        for place in range(len(row) - 1):
            self.assertIs(gallery.may_be(swapped(row, place)), place in quiet)

    def test_deeds_by_chance(self):
        met = set()
        for seed in range(12):
            chance = random.Random(seed)
            row = tuple(chance.sample(range(15), chance.randrange(1, 8)))
            houses = tuple(tuple(sorted(chance.sample(range(1, 6), chance.randrange(4)))) for _ in SIDES)
            gallery, plain = Gallery(row, houses=houses), Plain(row, houses)
            for turn in range(160):
                deed = some_deed(chance, *plain.stood[-1])
                wanted, found = plain.deed(*deed), do(gallery, *deed)
                met.add((deed[0], wanted[1] if wanted[0] == "refused" else wanted[0]))
                self.assertEqual(found, wanted, deed)
                self.assertTrue(exactly(list(found[1:]), list(wanted[1:])) or wanted[0] == "refused", deed)
                self.same(gallery, plain)
                if turn % 5 == 0:
                    self.asked(gallery, plain)
        self.assertEqual(met, {
            ("change", "told"), ("change", NoPlace), ("come", "told"), ("come", Known), ("come", NoPlace),
            ("go", "told"), ("go", NoOne), ("go", Last), ("build", "told"), ("build", NoSide), ("build", Stands),
            ("pull", "told"), ("pull", NoSide), ("pull", NoFloor), ("sneak", "told"), ("sneak", NoPlace),
            ("sneak", Seen), ("undo", "told")})

    def test_80_deeds_that_stand_and_all_undone(self):
        chance = random.Random(80)
        row = tuple(chance.sample(range(30), 8))
        gallery, plain = Gallery(row), Plain(row, ((), ()))
        while len(plain.stood) <= 80:
            deed = some_deed(chance, *plain.stood[-1])
            if deed[0] != "undo" and not (deed[0] == "come" and len(plain.stood[-1][0]) == 12):
                self.assertEqual(do(gallery, *deed), plain.deed(*deed))
                self.same(gallery, plain)
        self.assertEqual(gallery.deeds(), 80)
        self.asked(gallery, plain)
        for many in range(81):
            row, houses = plain.stood[many]
            found = gallery.as_of(many)
            self.assertEqual((found.row(), found.houses(), found.deeds(), found.log()), (row, houses, many, []))
        for _ in range(80):
            self.assertEqual(do(gallery, "undo"), plain.deed("undo"))
            self.same(gallery, plain)
        for _ in range(2):
            self.assertIs(gallery.undo(), False)
            plain.deed("undo")
            self.same(gallery, plain)
        self.assertIs(gallery.change(0) is not None, True)
        plain.deed("change", 0)
        self.same(gallery, plain)


class Deeds(Asking):
    def test_as_written_out(self):
        gallery = Gallery((4, 8, 6, 1, 9), houses=((1, 2), (1,)))
        self.assertEqual(repr(gallery), "Gallery(5 folk, 3 floors)")
        self.assertEqual(gallery.change(0), [("left", 1)])
        self.assertEqual(gallery.row(), (8, 4, 6, 1, 9))
        self.assertEqual(gallery.change(place=2), [])
        self.assertEqual(gallery.row(), (8, 4, 1, 6, 9))
        self.assertEqual(gallery.come(10, place=0), [4, 6, 8, 9])
        self.assertEqual(gallery.go(10), [4, 6, 8, 9])
        self.assertEqual(gallery.build("right", 2), (6, 8, 9))
        self.assertEqual(gallery.houses(), ((1, 2), (1, 2)))
        self.assertIsNone(gallery.pull(floor=1, side="left"))
        self.assertEqual(gallery.houses(), ((2,), (1, 2)))
        self.assertIsNone(gallery.sneak([0, 0]))
        self.assertEqual(gallery.deeds(), 7)
        self.assertEqual(gallery.views(), (((4, 6, 8, 9),), ((9,), (6, 8, 9))))

    def test_by_names_in_another_order(self):
        gallery = Gallery(houses=[[1], ()], row=[2, 1])
        self.assertEqual(gallery.come(place=1, who=3), [])
        self.assertEqual(gallery.come(5, place=0), [2, 3])
        self.assertEqual(gallery.go(who=5), [2, 3])
        self.assertEqual(gallery.build(floor=1, side="right"), (1, 3))
        self.assertIsNone(gallery.pull(floor=1, side="right"))
        self.assertIsNone(gallery.sneak(places=()))
        self.assertEqual(gallery.change(place=1), [])
        self.assertEqual(gallery.row(), (2, 1, 3))
        self.assertIs(gallery.may_be(other=[2, 3, 1]), True)
        self.assertEqual(gallery.as_of(many=1).row(), (2, 3, 1))

    def test_place_of_come_by_name_alone(self):
        gallery = Gallery((2, 1))
        with self.assertRaises(TypeError):
            gallery.come(3, 0)
        with self.assertRaises(TypeError):
            Gallery((2, 1), ((), ()))
        self.assertEqual((gallery.row(), gallery.deeds()), ((2, 1), 0))

    def test_sneak_of_none_is_a_deed(self):
        for bare in ([], ()):
            gallery = Gallery((2, 1), houses=((1,), (1,)))
            self.assertIsNone(gallery.sneak(bare))
            self.assertEqual((gallery.deeds(), gallery.row()), (1, (2, 1)))
            self.assertEqual(gallery.log(), [("in", "sneak"), ("out", "sneak")])
            self.assertIs(gallery.undo(), True)
            self.assertIs(gallery.undo(), False)

    def test_sneak_is_one_deed_or_none(self):
        gallery = Gallery((4, 8, 6, 1, 9), houses=((1, 2), (1,)))
        gallery.sneak((2, 2, 2))
        self.assertEqual((gallery.row(), gallery.deeds()), ((4, 8, 1, 6, 9), 1))
        for places, refusal, place in (
                ([2, 0], Seen, 0), ([2, 4], NoPlace, 4), ([2, -1, 0], NoPlace, -1), ([0, 4], Seen, 0), ([4, 0], NoPlace, 4),
                ([2, 2, 3], Seen, 3), ([2, 10 ** 5000], NoPlace, 10 ** 5000)):
            with self.assertRaises(refusal) as caught:
                gallery.sneak(places)
            self.assertIs(type(caught.exception), refusal)
            self.assertEqual(caught.exception.place, place)
            self.assertEqual((gallery.row(), gallery.deeds()), ((4, 8, 1, 6, 9), 1))
        self.assertIs(gallery.undo(), True)
        self.assertEqual((gallery.row(), gallery.deeds()), ((4, 8, 6, 1, 9), 0))

    def test_the_refusal_told_first(self):
        gallery = Gallery((4, 8), houses=((1,), (2,)))
        alone = Gallery((4,))
        for ask, refusal, field, value in (
                (lambda: gallery.change(1), NoPlace, "place", 1), (lambda: gallery.change(-1), NoPlace, "place", -1),
                (lambda: gallery.come(4, place=9), Known, "who", 4), (lambda: gallery.come(4, place=0), Known, "who", 4),
                (lambda: gallery.come(5, place=3), NoPlace, "place", 3),
                (lambda: gallery.come(5, place=-1), NoPlace, "place", -1), (lambda: gallery.go(5), NoOne, "who", 5),
                (lambda: alone.go(5), NoOne, "who", 5), (lambda: alone.go(4), Last, None, None),
                (lambda: gallery.build("up", 1), NoSide, "side", "up"),
                (lambda: gallery.build("", 7), NoSide, "side", ""),
                (lambda: gallery.build("left", 1), Stands, "floor", 1),
                (lambda: gallery.build("right", 2), Stands, "floor", 2),
                (lambda: gallery.pull("up", 1), NoSide, "side", "up"),
                (lambda: gallery.pull("LEFT", 9), NoSide, "side", "LEFT"),
                (lambda: gallery.pull("left", 2), NoFloor, "floor", 2),
                (lambda: gallery.pull("right", 1), NoFloor, "floor", 1),
                (lambda: gallery.as_of(-1), NoDeed, "many", -1), (lambda: gallery.as_of(1), NoDeed, "many", 1)):
            with self.assertRaises(refusal) as caught:
                ask()
            self.assertIs(type(caught.exception), refusal)
            if field:
                self.assertEqual(getattr(caught.exception, field), value)
            self.assertEqual((gallery.row(), gallery.houses(), gallery.deeds()), ((4, 8), ((1,), (2,)), 0))
            self.assertEqual((alone.row(), alone.deeds()), ((4,), 0))

    def test_the_log(self):
        gallery = Gallery((4, 8), houses=((1,), (2,)))
        self.assertEqual(gallery.log(), [])
        wanted = []
        for word, parts in (
                ("undo", ()), ("change", (0,)), ("change", (5,)), ("go", (5,)), ("go", (4,)), ("go", (8,)),
                ("come", (8, 0)), ("come", (9, 7)), ("come", (9, 1)), ("build", ("up", 1)), ("build", ("left", 1)),
                ("build", ("left", 2)), ("pull", ("up", 1)), ("pull", ("left", 3)), ("pull", ("left", 1)),
                ("sneak", ([],)), ("sneak", ([0, 0, 5],)), ("undo", ()), ("undo", ())):
            do(gallery, word, *parts)
            wanted += [("in", word), ("out", word)]
            self.assertTrue(exactly(gallery.log(), wanted))
        # Asking is no deed.
        for ask in (gallery.row, gallery.houses, gallery.views, gallery.box, gallery.walls, gallery.lot, gallery.may,
                    gallery.deeds, gallery.log, gallery.twin, lambda: gallery.may_be((1, 2)), lambda: gallery.as_of(0)):
            ask()
        with self.assertRaises(NoDeed):
            gallery.as_of(99)
        self.assertTrue(exactly(gallery.log(), wanted))

    def test_undone_deeds_are_as_never_been(self):
        gallery = Gallery((4, 8, 6), houses=((1,), ()))
        gallery.change(0)
        gallery.come(5, place=0)
        gallery.undo()
        gallery.build("right", 3)
        gallery.undo()
        gallery.undo()
        gallery.go(6)
        self.assertEqual((gallery.row(), gallery.houses(), gallery.deeds()), ((4, 8), ((1,), ()), 1))
        self.assertEqual(gallery.as_of(0).row(), (4, 8, 6))
        self.assertEqual(gallery, Gallery((4, 8), houses=((1,), ())))


class OfItsOwn(Asking):
    def test_as_of_and_twin_are_nothing_to_each_other(self):
        gallery = Gallery((4, 8, 6), houses=((1,), ()))
        gallery.change(0)
        gallery.build("right", 1)
        early, twin = gallery.as_of(1), gallery.twin()
        self.assertIs(type(early), Gallery)
        self.assertEqual((early.deeds(), early.row(), early.houses()), (1, (8, 4, 6), ((1,), ())))
        self.assertEqual((twin.deeds(), twin.log(), twin == gallery), (2, [], True))
        before = gallery.log()
        twin.go(4)
        early.undo()
        early.build("left", 2)
        self.assertEqual((gallery.row(), gallery.houses(), gallery.deeds()), ((8, 4, 6), ((1,), (1,)), 2))
        self.assertEqual(gallery.log(), before)
        self.assertEqual((early.row(), early.deeds(), early.houses()), ((4, 8, 6), 1, ((1, 2), ())))
        self.assertEqual(early.log(), [("in", "undo"), ("out", "undo"), ("in", "build"), ("out", "build")])
        gallery.undo()
        gallery.undo()
        gallery.come(7, place=3)
        self.assertEqual((twin.row(), twin.deeds(), twin.houses()), ((8, 6), 3, ((1,), (1,))))
        self.assertEqual(twin.log(), [("in", "go"), ("out", "go")])
        for wanted in ((8, 4, 6), (8, 4, 6), (4, 8, 6)):
            self.assertIs(twin.undo(), True)
            self.assertEqual(twin.row(), wanted)
        self.assertIs(twin.undo(), False)
        self.assertEqual(gallery.row(), (4, 8, 6, 7))

    def test_no_such_deed(self):
        gallery = Gallery((4, 8, 6))
        for deeds in range(4):
            for many in (-1, -2, deeds + 1, 99, 10 ** 5000, -10 ** 5000):
                with self.assertRaises(NoDeed) as caught:
                    gallery.as_of(many)
                self.assertEqual(caught.exception.many, many)
            for many in range(deeds + 1):
                self.assertEqual(gallery.as_of(many).deeds(), many)
            gallery.change(0)

    def test_what_was_handed_in_and_is_changed_behind(self):
        row, left, places = [4, 8, 6], [3], [1, 1]
        houses = [left, [5]]
        gallery = Gallery(row, houses=houses)
        gallery.sneak(places)
        self.assertEqual((row, houses, places), ([4, 8, 6], [[3], [5]], [1, 1]))
        row.append(9)
        left.append(4)
        houses[1].append(6)
        houses.append([7])
        places.append(0)
        self.assertTrue(exactly(gallery.row(), (4, 8, 6)))
        self.assertTrue(exactly(gallery.houses(), ((3,), (5,))))
        self.assertTrue(exactly(gallery.as_of(0).row(), (4, 8, 6)))
        self.assertTrue(exactly(gallery.as_of(0).houses(), ((3,), (5,))))

    def test_told_lists_are_the_askers_own(self):
        gallery = Gallery((4, 8, 6, 1, 9), houses=((1, 2), (1,)))
        for word, parts in (("change", (0,)), ("come", (10, 0)), ("go", (10,))):
            before = (gallery.row(), gallery.houses())
            told = do(gallery, word, *parts)[1]
            wanted = list(told)
            self.assertTrue(told)
            told.append("spoilt")
            gallery.undo()
            self.assertEqual((gallery.row(), gallery.houses()), before)
            self.assertEqual(do(gallery, word, *parts)[1], wanted)
        gallery = Gallery((4, 8, 6, 1, 9), houses=((1, 2), (1,)))
        gallery.change(2)
        for ask in (gallery.may, gallery.log, gallery.box, gallery.walls, gallery.lot, gallery.views, gallery.row,
                    gallery.houses):
            told, again = ask(), ask()
            self.assertTrue(exactly(told, again))
            wanted = list(told)
            for one in lists_within(told):
                one.append("spoilt")
            self.assertEqual(list(ask()), wanted)
            self.assertEqual(list(again), wanted)


class Alike(Asking):
    def test_just_of_the_same_row_and_houses(self):
        rows, houses = [(1, 2), (2, 1), (1, 2, 3), (1,)], [((), ()), ((1,), ()), ((), (1,)), ((1,), (1,))]
        all_of_them = list(itertools.product(rows, houses))
        for (mine, my_houses), (its, its_houses) in itertools.product(all_of_them, repeat=2):
            one, other = Gallery(mine, houses=my_houses), Gallery(list(its), houses=[*map(list, its_houses)])
            same = (mine, my_houses) == (its, its_houses)
            self.assertIs(one == other, same)
            self.assertIs(one != other, not same)

    def test_whatever_was_done(self):
        one, other = Gallery((1, 2)), Gallery((2, 1), houses=((3,), ()))
        one.change(0)
        self.assertIs(one == other, False)
        one.build("left", 3)
        self.assertIs(one == other, True)
        self.assertNotEqual(one.log(), other.log())

    def test_to_nothing_else(self):
        gallery = Gallery((1, 2))
        for thing in (None, True, 0, 2, "Gallery(2 folk, 0 floors)", (1, 2), [1, 2], ((1, 2), ((), ())), {}, Gallery,
                      object(), repr(gallery), len(gallery)):
            self.assertIs(gallery == thing, False)
            self.assertIs(thing == gallery, False)
            self.assertIs(gallery != thing, True)

    def test_len_and_repr(self):
        self.assertEqual((len(Gallery((7,))), repr(Gallery((7,)))), (1, "Gallery(1 folk, 0 floors)"))
        gallery = Gallery(range(12), houses=(FULL, FULL[:1]))
        self.assertEqual((len(gallery), repr(gallery), str(gallery)), (12,) + ("Gallery(12 folk, 100 floors)",) * 2)


class MayBe(Asking):
    def test_other_folk_and_other_views(self):
        gallery = Gallery((4, 8, 6), houses=((1,), (1,)))
        for other in ((4, 8), (4, 8, 6, 1), (4, 8, 7), (9,), (6, 8, 4), (8, 4, 6), (4, 6, 8), (1, 2, 3)):
            self.assertIs(gallery.may_be(other), False, other)
            self.assertIs(gallery.may_be(list(other)), False, other)
        self.assertIs(gallery.may_be((4, 8, 6)), True)

    def test_against_all_unseen_exchanges(self):
        barred = 0
        for houses in (((1,), (1,)), ((2,), (1,)), ((1, 3), (2,)), ((2, 3), (3,)), ((), ())):
            orders = list(itertools.permutations((9, 4, 1, 0, -2)))
            for start in orders[::23]:
                reached = [start]
                for row in reached:
                    reached += [other for other in [swapped(row, at) for at in range(4)]
                                if other not in reached and not telling(row, other, houses)]
                gallery = Gallery(start, houses=houses)
                for other in orders[::3]:
                    self.assertIs(gallery.may_be(other), other in reached)
                    if views(other, houses) == views(start, houses):
                        self.assertIs(leads(gallery.box(), start, other), other in reached)
                        barred += other not in reached
        self.assertGreater(barred, 0)

    def test_twelve_folk(self):
        chance = random.Random(81)
        for _ in range(30):
            row = tuple(chance.sample(range(100), 12))
            gallery = Gallery(row, houses=((1, 3), (2, 5)))
            other = row
            for _ in range(10):
                places = [at for at in range(11) if not telling(other, swapped(other, at), gallery.houses())]
                if places:
                    other = swapped(other, chance.choice(places))
            self.assertIs(gallery.may_be(other), True)


class Interface(Asking):
    METHODS = {
        "change": "self place", "come": "self who * place", "go": "self who", "build": "self side floor",
        "pull": "self side floor", "sneak": "self places", "undo": "self", "row": "self", "houses": "self",
        "views": "self", "box": "self", "walls": "self", "lot": "self", "may": "self", "may_be": "self other",
        "deeds": "self", "as_of": "self many", "twin": "self", "log": "self", "__eq__": "self other",
        "__len__": "self", "__repr__": "self", "__init__": "self row * houses"}

    def test_names_and_arguments(self):
        self.assertEqual(Gallery.__module__, module.__name__)
        for name, arguments in self.METHODS.items():
            method = vars(Gallery)[name]
            placed, _, alone = [part.split() for part in arguments.partition("*")]
            self.assertEqual((names_placed(method), names_alone(method)), (placed, alone), name)
            self.assertIsNone(method.__defaults__, name)
            self.assertEqual(method.__kwdefaults__, {"houses": ((), ())} if name == "__init__" else None)

    def test_houses_may_be_left_out(self):
        self.assertEqual(Gallery((1, 2)).houses(), ((), ()))
        self.assertEqual(Gallery(row=(1, 2)), Gallery((1, 2), houses=((), ())))

    def test_refusals_stand_under_their_classes(self):
        for refusal, base in ((NoPlace, LookupError), (Known, ValueError), (NoOne, LookupError), (Last, RuntimeError),
                              (NoSide, ValueError), (Stands, RuntimeError), (NoFloor, LookupError),
                              (Seen, RuntimeError), (NoDeed, LookupError)):
            self.assertEqual((refusal.__bases__, refusal.__module__), ((base,), errors.__name__))


if __name__ == "__main__":
    unittest.main()
