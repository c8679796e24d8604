"""Rows and houses as texts: [18]."""

import itertools
import random
import unittest

from balconyrow import texts as module
from balconyrow.errors import BadText
from balconyrow.texts import houses_in, houses_text, row_in, row_text
from tests.common import MANY, SHORTEST, TALLEST, Asking

# Words that are no numbers so written.
BAD_WORDS = (
    "", "00", "01", "-0", "-00", "-01", "+1", "+0", "--1", "-", "1-", "1-2", "10000000000", "-10000000000",
    "9" * 5000, "1.0", "1e3", "0x1", "1_0", "a", "1a", "a1", "\t1", "1\n", "\n", "1\t2", ".", ",", "1,", "None", "True",
    "\u0661", "\u00b2", "\uff11", "\u2212" + "1", "\u00a0", "1\u00a0")


class OfRows(Asking):
    def test_there_and_back(self):
        chance = random.Random(70)
        rows = [(0,), (7,), (-1,), (TALLEST,), (SHORTEST,), (1, -1), (0, 10, 100), (9999999999, -9999999999), MANY]
        rows += [tuple(chance.sample(range(-50, 50), chance.randrange(1, 25))) for _ in range(50)]
        for row in rows:
            text = row_text(row)
            self.assertEqual(text.split(" "), [str(who) for who in row])
            self.tells(row_text, text, row=row)
            self.tells(row_in, row, text=text)

    def test_as_written_out(self):
        for row, text in (((4, 8, 6), "4 8 6"), ((0, -3, 1000000000), "0 -3 1000000000"), ((-10,), "-10")):
            self.tells(row_text, text, row=row)
            self.tells(row_in, row, text=text)

    def test_a_word_that_is_not_so_written(self):
        for word in BAD_WORDS:
            for before in ((), ("4",), ("4", "-8", "0")):
                for behind in ((), ("5",), ("5", "x")):
                    text = " ".join((*before, word, *behind))
                    self.refused(row_in, BadText, "at", len(before), text=text)

    def test_blanks(self):
        for text, at in (("", 0), (" ", 0), ("  ", 0), (" 1", 0), ("1 ", 1), ("1  2", 1), ("1 2 ", 2), ("1 2  3", 2),
                         ("1   2", 1), (" 1 ", 0)):
            self.refused(row_in, BadText, "at", at, text=text)

    def test_a_word_twice(self):
        for text, at in (("1 1", 1), ("1 2 1", 2), ("1 2 2 1", 2), ("-5 5 -5", 2), ("0 1 0 x", 2), ("0 x 0", 1),
                         ("3 1 2 1 3", 3)):
            self.refused(row_in, BadText, "at", at, text=text)
        self.tells(row_in, (-5, 5), text="-5 5")

    def test_ten_figures_at_most(self):
        self.tells(row_in, (9999999999, -9999999999, 1234567890), text="9999999999 -9999999999 1234567890")
        self.refused(row_in, BadText, "at", 1, text="1 12345678901")
        self.refused(row_in, BadText, "at", 1, text="1 -12345678901")


class OfHouses(Asking):
    def test_there_and_back(self):
        sides = [side for many in range(4) for side in itertools.combinations((1, 2, 9, 10, 99), many)]
        for houses in [*itertools.product(sides[::2], sides[1::2]), (tuple(range(1, 100)),) * 2]:
            text = houses_text(houses)
            self.tells(houses_text, text, houses=houses)
            self.tells(houses_in, houses, text=text)

    def test_as_written_out(self):
        for houses, text in ((((), ()), ":"), (((1,), ()), "1 :"), (((), (1,)), ": 1"), (((1, 20), (3,)), "1 20 : 3"),
                             (((7,), (7, 8)), "7 : 7 8")):
            self.tells(houses_text, text, houses=houses)
            self.tells(houses_in, houses, text=text)

    def test_a_word_that_is_not_so_written(self):
        for word in (*BAD_WORDS, "::", ":1", "1:", ";"):
            for before in ((), ("4",), (":",), ("4", "5", ":"), ("4", ":", "1", "3")):
                for behind in ((), ("5",), ("x",), ("9", ":")):
                    text = " ".join((*before, word, *behind))
                    self.refused(houses_in, BadText, "at", len(before), text=text)

    def test_blanks(self):
        for text, at in (("", 0), (" ", 0), (" :", 0), (": ", 1), ("1  :", 1), ("1 :  2", 2), (":  1", 1), ("1 ", 1),
                         ("1 : ", 2)):
            self.refused(houses_in, BadText, "at", at, text=text)

    def test_two_colons(self):
        for text, at in ((": :", 1), ("1 : :", 2), ("1 : 2 :", 3), (": 1 : x", 2), (": x :", 1)):
            self.refused(houses_in, BadText, "at", at, text=text)

    def test_no_colon(self):
        for text, at in (("1", 1), ("1 2", 2), ("1 2 99", 3)):
            self.refused(houses_in, BadText, "at", at, text=text)
        # A word that can't stand there goes ahead of that.
        for text, at in (("1 1", 1), ("2 1", 1), ("0", 0), ("1 x", 1), ("1 2 -3", 2)):
            self.refused(houses_in, BadText, "at", at, text=text)

    def test_floors_that_cannot_stand_there(self):
        for text, at in (("0 :", 0), ("-1 :", 0), (": 0", 1), (": -2", 1), ("1 1 :", 1), ("2 1 :", 1), ("1 : 2 2", 3),
                         ("1 : 3 2", 3), ("1 3 2 4 :", 2), ("5 : 5 4", 3), ("1 2 : 0", 3)):
            self.refused(houses_in, BadText, "at", at, text=text)


class Interface(Asking):
    def test_names_and_arguments(self):
        self.defined_in(module, {
            "row_text": "row", "row_in": "text", "houses_text": "houses", "houses_in": "text"})


if __name__ == "__main__":
    unittest.main()
