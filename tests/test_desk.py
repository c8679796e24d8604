"""A desk: [19]."""

import itertools
import random
import time
import unittest

from balconyrow import desk as module
from balconyrow.desk import answers
from balconyrow.errors import BadRow
from balconyrow.lots import lot_size, lots_many, movers
from balconyrow.needs import fewest, needs_to_know, needs_to_watch
from balconyrow.seen import box_seen
from tests.common import Asking, lots_by_hand, seen_by_hand, swapped, walls_by_hand
from tests.test_gallery import Plain, some_deed, telling

# Each row of a sheet with its answer, gone through on paper.
BY_HAND = (
    ("row 4 8 6 1 9", None),
    ("row", "4 8 6 1 9"), ("floors", ":"), ("may", "0 1 2 3"), ("lots", "1"), ("size", "120"), ("movers", "1 4 6 8 9"),
    ("change 1", "unseen"), ("undo", "yes"), ("undo", "no"),
    ("build left 2", "4 6 8 9"), ("build left 1", "4 8 9"), ("build right 1", "9"), ("floors", "1 2 : 1"),
    ("build left 1", "refused Stands"), ("build right 1", "refused Stands"), ("pull left 3", "refused NoFloor"),
    ("pull right 2", "refused NoFloor"),
    ("change 0", "left 1"), ("row", "8 4 6 1 9"), ("change 3", "right 1"), ("row", "8 4 6 9 1"), ("undo", "yes"),
    ("change 4", "refused NoPlace"), ("change 99", "refused NoPlace"),
    # The 4 and the 6 have just one ahead, by left floors 1 and 2; the 1 has two or three, so it and the 6 move.
    ("may", "2"), ("size", "2"), ("movers", "1 6"), ("lots", "1"),
    ("sneak 2", "done"), ("row", "8 4 1 6 9"), ("sneak 2 2 2", "done"), ("row", "8 4 6 1 9"),
    ("sneak 0", "refused Seen"), ("sneak 2 1", "refused Seen"), ("sneak 7 0", "refused NoPlace"),
    ("sneak 2 4", "refused NoPlace"), ("row", "8 4 6 1 9"), ("undo", "yes"), ("row", "8 4 1 6 9"), ("undo", "yes"),
    ("row", "8 4 6 1 9"),
    ("to 8 4 6 1 9", "led"), ("to 8 4 1 6 9", "led"), ("to 8 6 4 1 9", "seen"), ("to 4 8 6 1 9", "seen"),
    ("to 8 4 6 1", "seen"), ("to 8 4 6 1 10", "seen"), ("to 7", "seen"),
    ("come 8 0", "refused Known"), ("come 4 77", "refused Known"), ("come 5 6", "refused NoPlace"),
    ("come 10 5", "9"), ("row", "8 4 6 1 9 10"), ("undo", "yes"), ("come -10 0", "-"), ("row", "-10 8 4 6 1 9"),
    ("go 1", "-"), ("go 1", "refused NoOne"), ("go -10", "-"), ("go 8", "4 6"), ("row", "4 6 9"), ("go 9", "6"),
    ("go 4", "-"), ("go 6", "refused Last"), ("go 7", "refused NoOne"), ("row", "6"), ("may", "-"), ("movers", "-"),
    ("lots", "1"), ("size", "1"), ("know", "0"), ("watch", "0"), ("change 0", "refused NoPlace"),
    ("pull left 1", "done"), ("pull left 2", "done"), ("pull right 1", "done"), ("floors", ":"),
)

WORDS = ("change 0", "come 7 0", "go 2", "build left 3", "pull right 99", "sneak 0", "undo", "row", "floors", "may",
         "lots", "size", "movers", "know", "watch", "to 1 2")

# Rows that are not so written, whatever stands ahead.
BAD = (
    "", " ", "x", "Row", "ROW", "row ", " row", "row 1", "row 1 2", "rows", "floor", "floors :", "floors ", "may 0",
    "lots 1", "size 1", "movers 1", "know 1", "watch 1", "undo 1", "undo ", " undo", "undo\t", "UNDO", "may ",
    "change", "change ", "change 0 1", "change -1", "change 100", "change 00", "change +1", "change x", "change  0",
    "change 0 ", "change 1.0", "change left",
    "come", "come 1", "come 1 2 3", "come 1 -1", "come 1 100", "come x 1", "come 01 1", "come -0 1", "come 1 01",
    "come 12345678901 1", "come  1", "come 1 ", "come 1  1", "come +1 0",
    "go", "go ", "go x", "go 1 2", "go -0", "go 01", "go 12345678901", "go 1 ",
    "build", "build left", "build left ", "build left 0", "build left -1", "build left 100", "build left x",
    "build Left 1", "build 1 left", "build up 1", "build left 1 2", "build  1", "build left  1", "build 1",
    "build left 01", "pull", "pull right", "pull right 0", "pull right 100", "pull up 1", "pull right 1 1",
    "pull right +1", "pull : 1", "pull 1 1", "sneak", "sneak ", "sneak -1", "sneak 100", "sneak 0 100", "sneak 0 x",
    "sneak 0  1", "sneak 0 ", "sneak 0 1 01",
    "to", "to ", "to x", "to 1 1", "to 1 2 1", "to 01", "to 1  2", "to 1 ", "to -0", "to 12345678901", "to 1 x",
)


class ByHand(Asking):
    def test_a_sheet_of_every_word(self):
        text = "\n".join(row for row, _ in BY_HAND)
        wanted = [answer for _, answer in BY_HAND[1:]]
        found = answers(text)
        for (row, _), told, answer in zip(BY_HAND[1:], found, wanted):
            self.assertEqual(told, answer, row)
        self.tells(answers, wanted, text=text)

    def test_each_beginning_of_it(self):
        rows, wanted = [row for row, _ in BY_HAND], [answer for _, answer in BY_HAND[1:]]
        for many in range(1, len(rows) + 1):
            self.assertEqual(answers("\n".join(rows[:many])), wanted[:many - 1])

    def test_the_first_row_alone(self):
        self.tells(answers, [], text="row 1")
        self.tells(answers, [], text="row 0 -1000000000 1000000000 9999999999")

    def test_twelve_folk(self):
        self.tells(answers, ["12 11 10 9 8 7 6 5 4 3 2 1", "many", "479001600"],
                   text="row 12 11 10 9 8 7 6 5 4 3 2 1\nrow\nlots\nsize")

    def test_lots_of_nine_at_most(self):
        nine = "row 9 8 7 6 5 4 3 2 1"
        self.tells(answers, ["1", "-", "many", "yes", "1"], text=nine + "\nlots\ncome 0 0\nlots\nundo\nlots")

    def test_know_and_watch(self):
        # 2 1 3: needs (1, 1), (1, 2), (2, 1) to know, (1, 2), (2, 1) to watch.
        self.tells(answers, ["2", "2"], text="row 2 1 3\nknow\nwatch")
        # 1 2 3: left floor 1 does.
        self.tells(answers, ["1", "1"], text="row 1 2 3\nknow\nwatch")
        self.tells(answers, ["1", "1", "1 2 3", "1", "-", "-"],
                   text="row 1 2 3\nknow\nwatch\nbuild left 1\nsize\nmovers\nmay")

    def test_barred(self):
        # Two rows with the same views, parted by the 1: it has just one taller one on either side.
        found = []
        for row in itertools.permutations((4, 3, 2, 1)):
            for left, right in itertools.product((1, 2), (1, 2)):
                houses = ((left,), (right,))
                lots = lots_by_hand(box_seen(row, houses))
                for other in lots:
                    told = answers(
                        f"row {' '.join(map(str, row))}\nbuild left {left}\nbuild right {right}\n"
                        f"to {' '.join(map(str, other))}\nlots\nsize")
                    found.append(told[2])
                    self.assertEqual(told[2:], [
                        "led" if lots[row] is lots[other] else "barred", str(len({id(lot) for lot in lots.values()})),
                        str(len(lots[row]))])
        self.assertEqual(set(found), {"led", "barred"})

    def test_change_seen_by_several(self):
        self.tells(answers, ["2", "1 2", "left 1; right 1", "1 : 1"],
                   text="row 2 1\nbuild left 1\nbuild right 1\nchange 0\nfloors")


class BesideAPlainCount(Asking):
    def test_sheets_by_chance(self):
        met = set()
        for seed in range(30):
            chance = random.Random(seed)
            row = tuple(chance.sample(range(15), chance.randrange(1, 9)))
            plain, rows, wanted = Plain(row, ((), ())), ["row " + " ".join(map(str, row))], []
            while len(rows) < 60:
                asked, told = self.some_row(chance, plain)
                if asked is not None:
                    rows.append(asked)
                    wanted.append(told)
                    met.add((asked.split(" ")[0], told if told.split(" ")[0] == "refused" else ""))
            self.assertEqual(answers("\n".join(rows)), wanted)
        self.assertEqual({word for word, _ in met}, {row.split(" ")[0] for row in WORDS})
        self.assertLessEqual({
            ("change", "refused NoPlace"), ("come", "refused Known"), ("come", "refused NoPlace"),
            ("go", "refused NoOne"), ("go", "refused Last"), ("build", "refused Stands"), ("pull", "refused NoFloor"),
            ("sneak", "refused Seen"), ("sneak", "refused NoPlace")}, met)

    def some_row(self, chance, plain):
        """A row of a sheet by chance, with its answer; None where it can't be written so."""
        row, houses = plain.stood[-1]
        if chance.random() < 0.4:
            return self.some_ask(chance, row, houses)
        word, *parts = some_deed(chance, row, houses)
        if word == "sneak":
            parts = parts[0]
        bad = {"build": parts[:1] not in (["left"], ["right"]), "pull": parts[:1] not in (["left"], ["right"]),
               "sneak": parts == [] or -1 in parts, "change": -1 in parts, "come": parts[1:] == [-1]}
        if bad.get(word, False) or word == "come" and len(row) > 10:
            return None, None
        asked = " ".join([word, *map(str, parts)])
        told = plain.deed(word, parts) if word == "sneak" else plain.deed(word, *parts)
        if told[0] == "refused":
            return asked, "refused " + told[1].__name__
        if word in ("pull", "sneak"):
            return asked, "done"
        if word == "undo":
            return asked, "yes" if told[1] else "no"
        if word == "change":
            return asked, "; ".join(f"{side} {floor}" for side, floor in told[1]) or "unseen"
        return asked, " ".join(map(str, told[1])) or "-"

    def some_ask(self, chance, row, houses):
        word = chance.choice(("row", "floors", "may", "lots", "size", "movers", "know", "watch", "to"))
        box = box_seen(row, houses)
        if word == "to":
            other = list(row)
            for _ in range(chance.randrange(4)):
                at = chance.randrange(len(row))
                other[at:at + 2] = other[at:at + 2][::-1]
            other = (*other, 77) if chance.random() < 0.1 else tuple(other)
            asked = " ".join(["to", *map(str, other)])
            if sorted(other) != sorted(row) or seen_by_hand(other, houses) != seen_by_hand(row, houses):
                return asked, "seen"
            return asked, "led" if walls_by_hand(box, other) == walls_by_hand(box, row) else "barred"
        quiet = [at for at in range(len(row) - 1) if not telling(row, swapped(row, at), houses)]
        return word, {
            "row": lambda: " ".join(map(str, row)),
            "floors": lambda: " ".join([*map(str, houses[0]), ":", *map(str, houses[1])]),
            "may": lambda: " ".join(map(str, quiet)) or "-",
            "lots": lambda: str(lots_many(box)) if len(row) <= 9 else "many",
            "size": lambda: str(lot_size(box, row)),
            "movers": lambda: " ".join(map(str, movers(box, row))) or "-",
            "know": lambda: str(fewest(needs_to_know(row))),
            "watch": lambda: str(fewest(needs_to_watch(row)))}[word]()

    def test_sixty_rows_of_every_ask_in_good_time(self):
        asks = ["lots", "size", "movers", "know", "watch", "may", "row", "floors", "to 12 11 10 9 8 7 6 5 4 3 2 1"]
        rows = ["row 5 9 1 12 3 8 2 11 4 10 6 7", "build left 1", "build left 3", "build right 2"] + asks * 6
        begin = time.perf_counter()
        self.assertEqual(len(answers("\n".join(rows))), len(rows) - 1)
        self.assertLess(time.perf_counter() - begin, 20)


class IsBadRow(Asking):
    def test_each_row_that_is_not_so_written(self):
        for bad in BAD:
            self.refused(answers, BadRow, "number", 1, text="row 1 2\n" + bad)
            self.refused(answers, BadRow, "number", 3, text="row 1 2\nmay\nchange 0\n" + bad)
            self.refused(answers, BadRow, "number", 2, text="row 1 2\nmay\n" + bad + "\nrow\nnonsense")

    def test_each_word_is_well_so(self):
        for row in WORDS:
            self.assertEqual(len(answers("row 1 2\n" + row)), 1)
            self.refused(answers, BadRow, "number", 1, text="row 1 2\n" + row + " ")
            self.refused(answers, BadRow, "number", 1, text="row 1 2\n " + row)
            self.refused(answers, BadRow, "number", 1, text="row 1 2\n" + row.upper())
            self.refused(answers, BadRow, "number", 1, text="row 1 2\n" + row + " left")
            if row[:5] != "sneak" and row[:3] != "to ":
                self.refused(answers, BadRow, "number", 1, text="row 1 2\n" + row + " 5")

    def test_the_edges_of_numbers(self):
        for row, told in (
                ("change 99", "refused NoPlace"), ("sneak 99", "refused NoPlace"), ("come 5 99", "refused NoPlace"),
                ("build left 99", "1 2"), ("build right 1", "2"), ("pull left 99", "refused NoFloor"),
                ("go 9999999999", "refused NoOne"), ("go -9999999999", "refused NoOne"),
                ("come -9999999999 0", "-"), ("to 9999999999", "seen")):
            self.tells(answers, [told], text="row 1 2\n" + row)

    def test_no_such_row_first(self):
        for first in ("", " ", "row", "row ", "row x", "row 1 1", "row 01", "row 1  2", " row 1", "row 1 ", "Row 1",
                      "to 1 2", "change 0", "1 2", "rows 1", "undo", "row +1", "row 12345678901", "row\t1", "row:1"):
            self.refused(answers, BadRow, "number", 0, text=first)
            self.refused(answers, BadRow, "number", 0, text=first + "\nrow")
            self.refused(answers, BadRow, "number", 0, text=first + "\nnonsense")
            self.refused(answers, BadRow, "number", 0, text=first + "\nrow 1 2")

    def test_more_folk(self):
        for many in (13, 14, 60):
            text = "row " + " ".join(map(str, range(many)))
            self.refused(answers, BadRow, "number", 0, text=text)
            self.refused(answers, BadRow, "number", 0, text=text + "\nrow\nx")

    def test_bare_rows(self):
        self.refused(answers, BadRow, "number", 0, text="")
        self.refused(answers, BadRow, "number", 0, text="\n")
        self.refused(answers, BadRow, "number", 0, text="\nrow 1")
        self.refused(answers, BadRow, "number", 1, text="row 1\n")
        self.refused(answers, BadRow, "number", 1, text="row 1\n\n")
        self.refused(answers, BadRow, "number", 1, text="row 1\n\nrow")
        self.refused(answers, BadRow, "number", 2, text="row 1\nrow\n")

    def test_ahead_of_all_answers(self):
        # Nothing is answered where a later row is at fault, not even what would be refused.
        self.refused(answers, BadRow, "number", 3, text="row 1\ngo 1\ngo 5\nx\ny")


class Interface(Asking):
    def test_names_and_arguments(self):
        self.defined_in(module, {"answers": "text"})


if __name__ == "__main__":
    unittest.main()
