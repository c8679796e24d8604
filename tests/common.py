"""What the tests of boxes and of all that is asked of them share: counts by hand, and how a question is asked."""

import copy
import itertools
import unittest

TALLEST = 10 ** 9
SHORTEST = -10 ** 9

# 24 folk, both bounds of heights among them, in no order.
MANY = (5, SHORTEST, 77, -8, TALLEST, 0, 123456789, -4, 3, 999999999, -999999999, 12, 1, -1, 640, 2, -70,
        31, 4, 1000, -250000000, 8, 6, -2)

# Things of the kinds of [2] of which hardly any is what a question is about: the few that are, () and ((), ()) among
# them, are looked at by the tests themselves.
THINGS = (
    None, True, False, 0, 1, -3, 10 ** 5000, "", "0", "row", "left", (), [], [[]], ((),), ([],), [()], ((), ()),
    [(), ()], ([], []), (None,), (True,), (False,), ("",), (None, None), (True, False), (0,), [0], [True], [False],
    [None], ["0"], [[0]], [(0,)], (0, 1), [0, 1], (0, ()), (0, []), [0, ()], (True, ()), ("0", ()), (None, ()),
    (1, (0,)), (1, [0]), (1, (0,), (), ()), [1, [0], [], []], ((0, 0, 0),), [(0, 0, 0)], ([0, 0, 0],),
    ((((((((1,),),),),),),),), [[[[[[[[1]]]]]]]], (0, ((((((1,),),),),),)), "01", ("left", 1), [("left", 1)],
)


def ahead_by_hand(row):
    """How many taller ones each has ahead, by looking at all pairs of places."""
    ahead = {who: 0 for who in row}
    for first, second in itertools.combinations(row, 2):
        if first > second:
            ahead[second] += 1
    return ahead


def seen_by_hand(row, houses):
    """For each floor of either side whom it sees, by looking at all in front."""
    told = []
    for order, floors in zip((row, row[::-1]), houses):
        told.append(tuple(
            frozenset(who for at, who in enumerate(order) if sum(one > who for one in order[:at]) < floor)
            for floor in floors))
    return tuple(told)


def code_by_hand(row):
    ahead = ahead_by_hand(row)
    return [ahead[who] for who in sorted(row, reverse=True)]


def in_by_hand(box, row):
    ahead = ahead_by_hand(row)
    if sorted(row) != sorted(who for who, _, _ in box):
        return False
    return all(least <= ahead[who] <= greatest for who, least, greatest in box)


def rows_by_hand(box):
    """All rows that are in a box, out of all orders of its folk, by their codes as they rise."""
    orders = itertools.permutations([who for who, _, _ in box])
    return sorted([row for row in orders if in_by_hand(box, row)], key=code_by_hand)


def all_boxes(folk):
    """Each box of these folk, told from the tallest on."""
    stretches = [itertools.combinations_with_replacement(range(place + 1), 2) for place in range(len(folk))]
    for chosen in itertools.product(*stretches):
        yield tuple((who, least, greatest) for who, (least, greatest) in zip(folk, chosen))


def some_boxes(chance, folk, many):
    """So many boxes of these folk by chance, one number alone being as likely as more."""
    for _ in range(many):
        box = []
        for place, who in enumerate(folk):
            least, greatest = sorted(chance.randrange(place + 1) for _ in range(2))
            if chance.random() < 0.5:
                greatest = least
            box.append((who, least, greatest))
        yield tuple(box)


def walled_boxes(chance, folk, many):
    """So many boxes by chance with many stretches of one number amid, so that walls stand among walls."""
    for _ in range(many):
        box = []
        for place, who in enumerate(folk):
            least, greatest = sorted(chance.randrange(place + 1) for _ in range(2))
            if place > 1 and chance.random() < 0.7:
                least = greatest = chance.randrange(1, place)
            box.append((who, least, greatest))
        yield tuple(box)


def walls_by_hand(box, row):
    """The WALLS as [10] words them, with all numbers of each stretch written out."""
    return crew_by_hand({who: set(range(least, greatest + 1)) for who, least, greatest in box}, row)


def crew_by_hand(numbers, row):
    crew = sorted(numbers)
    while crew:
        least, *rest = crew
        if len(numbers[least]) == 1 and numbers[least] not in ({0}, {len(rest)}):
            ahead = [who for who in rest if row.index(who) < row.index(least)]
            behind = [who for who in rest if who not in ahead]
            return (least, tuple(ahead), crew_by_hand(stretches_by_hand(numbers, ahead, []), row),
                    crew_by_hand(stretches_by_hand(numbers, behind, ahead), row))
        crew = rest
    return ()


def stretches_by_hand(numbers, crew, ahead):
    """Of each of the crew its numbers, made less by the taller ones among ahead, that it can have in the crew."""
    told = {}
    for who in crew:
        less = sum(other > who for other in ahead)
        most = sum(other > who for other in crew)
        told[who] = {number - less for number in numbers[who] if 0 <= number - less <= most}
    return told


def walls_within(walls):
    """Each wall with those ahead of it, from the first on, then left, then right."""
    if not walls:
        return []
    who, ahead, left, right = walls
    return [(who, ahead), *walls_within(left), *walls_within(right)]


def swapped(row, place):
    return row[:place] + (row[place + 1], row[place]) + row[place + 2:]


def lots_by_hand(box):
    """For each row of the box the list of all rows that exchanges within it lead to, itself first."""
    inside = set(rows_by_hand(box))
    lots = {}
    for row in sorted(inside):
        if row in lots:
            continue
        lot = [row]
        lots[row] = lot
        for one in lot:
            for place in range(len(one) - 1):
                other = swapped(one, place)
                if other in inside and other not in lots:
                    lots[other] = lot
                    lot.append(other)
    return lots


def as_tuples(thing):
    return tuple(as_tuples(part) for part in thing) if isinstance(thing, (list, tuple)) else thing


def as_lists(thing):
    return [as_lists(part) for part in thing] if isinstance(thing, (list, tuple)) else thing


def by_turns(thing, as_list=True):
    """Lists of tuples of lists."""
    if not isinstance(thing, (list, tuple)):
        return thing
    parts = [by_turns(part, not as_list) for part in thing]
    return parts if as_list else tuple(parts)


def exactly(told, wanted):
    """Whether both are the same, of the same kinds at every depth."""
    if type(told) is not type(wanted):
        return False
    if isinstance(wanted, (list, tuple)):
        return len(told) == len(wanted) and all(map(exactly, told, wanted))
    return told == wanted


def lists_within(thing):
    """Each list in a thing, at any depth."""
    if isinstance(thing, list):
        yield thing
    if isinstance(thing, (list, tuple)):
        for part in thing:
            yield from lists_within(part)


def names_placed(ask):
    """The arguments of a function that may be handed in by their places."""
    return list(ask.__code__.co_varnames[:ask.__code__.co_argcount])


def names_alone(ask):
    """The arguments of a function that stand behind a bare *."""
    many = ask.__code__.co_argcount
    return list(ask.__code__.co_varnames[many:many + ask.__code__.co_kwonlyargcount])


class Asking(unittest.TestCase):
    """Asks as [2] says: by places and by names, of tuples and of lists, and again."""

    def shapes(self, handed):
        """What is handed in as tuples, as lists and as both by turns; a thing that is asked of stays as it is."""
        for shape in (as_tuples, as_lists, by_turns):
            yield {name: value if name == "thing" else shape(value) for name, value in handed.items()}

    def ways(self, ask, given):
        """By places, by names, by names the other way about, and by both; what stands behind a bare * by name alone."""
        alone = {name: given[name] for name in names_alone(ask)}
        placed = {name: value for name, value in given.items() if name not in alone}
        turned = dict(reversed(list(given.items())))
        first, *rest = [*placed, *alone]
        yield lambda: ask(*placed.values(), **alone)
        yield lambda: ask(**given)
        yield lambda: ask(**turned)
        yield lambda: ask(given[first], **{name: given[name] for name in reversed(rest)})

    def tells(self, ask, wanted, **handed):
        """Told is just what is wanted, however it is asked, and nothing comes of changing what was told."""
        for given in self.shapes(handed):
            before = copy.deepcopy(given)
            kept = list(lists_within(list(given.values())))
            for way in self.ways(ask, given):
                told = way()
                self.assertTrue(exactly(told, wanted), (ask.__name__, handed, told, wanted))
                kept.extend(lists_within(told))
            self.assertTrue(exactly(list(given.values()), list(before.values())), (ask.__name__, handed))
            self.assertEqual(len(kept), len({id(one) for one in kept}), (ask.__name__, handed))
            told = ask(**given)
            for one in lists_within(told):
                one.append("spoilt")
            self.assertTrue(exactly(ask(**given), wanted), (ask.__name__, handed))

    def refused(self, ask, refusal, field, value, **handed):
        """Refused so, however it is asked, and nothing that was handed in is changed."""
        for given in self.shapes(handed):
            before = copy.deepcopy(given)
            for way in self.ways(ask, given):
                with self.assertRaises(refusal) as caught:
                    way()
                self.assertIs(type(caught.exception), refusal, (ask.__name__, handed))
                if field is not None:
                    found = getattr(caught.exception, field)
                    self.assertTrue(exactly(found, value), (ask.__name__, handed, found, value))
            self.assertTrue(exactly(list(given.values()), list(before.values())), (ask.__name__, handed))

    def defined_in(self, module, wanted):
        """Each function of the interface is defined in that very file, with these arguments."""
        for name, arguments in wanted.items():
            ask = getattr(module, name)
            self.assertEqual(ask.__module__, module.__name__)
            placed, _, alone = [part.split() for part in arguments.partition("*")]
            self.assertEqual(names_placed(ask), placed)
            self.assertEqual(names_alone(ask), alone)
            self.assertEqual((ask.__defaults__, ask.__kwdefaults__), (None, None))
            for lacking in alone:
                with self.assertRaises(TypeError):
                    ask(*[0] * len(placed + alone))
                with self.assertRaises(TypeError):
                    ask(*[0] * len(placed), **{other: 0 for other in alone if other != lacking})
