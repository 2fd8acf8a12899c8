"""Consoles and samples: points 3 to 5 and 13, as wishesrise.consoles and wishesrise.samples speak of them."""

import itertools
import random
import unittest
from fractions import Fraction

from tests.helpers import MARKS, MOST, Case, all_rows, full, is_over, mixed, no_shares, strange
from wishesrise import consoles, samples
from wishesrise.consoles import Console
from wishesrise.fitting import failing, room
from wishesrise.helping import hindering
from wishesrise.holding import is_kind_held
from wishesrise.samples import lamps, like, odd
from wishesrise.shares import Shares

AB, ABC = ("a", "b"), ("a", "b", "c")
THREE = Shares(ABC, (20, 1, 1, 2, 2, 2, 2, 2))

# Answers worked out by hand.
LAMPS = {
    "marks": "lamp door", "total": "6",
    "number 00": "3", "number 01": "1", "number 10": "0", "number 11": "2",
    "share 00": "1/1", "share 01": "1/2", "share 10": "1/3", "share 11": "1/3", "share 01 10": "1/2", "share 11 01": "1/2",
    "share 11 11": "1/3", "share 10 11 01 00": "1/1", "share 00 00 00 00 00 00 00 00 00 00 00 00 00 00 00 00": "1/1",
    "share 10 10 10 10 10 10 10 10 10 10 10 10 10 10 10 11": "1/3",
    "fits": "yes", "kind": "yes", "kind held": "yes", "failing": "none", "hindering": "none",
    "room 00": "0 free", "room 01": "0 free", "room 10": "0 6", "room 11": "0 free",
}
ODD = {
    "marks": "a b", "total": "6", "number 01": "2", "share 01": "1/2", "share 10 01": "5/6", "share 11": "1/6",
    "fits": "no", "kind": "no", "kind held": "no", "failing": "01 10", "hindering": "01 / 10",
    "room 00": "4 free", "room 11": "4 free", "room 01": "0 0", "room 10": "0 0",
}
LIKE = {"room 00": "1 free", "room 01": "0 4", "room 10": "0 4", "room 11": "1 free", "fits": "yes", "share 11": "1/3"}
# It is kind, but not where "c" is there: for "011" and "101" 2 * 1 is less than 2 * 2.
BY_THREE = {"marks": "a b c", "total": "32", "kind": "yes", "kind held": "no", "fits": "no", "failing": "011 101",
            "share 111": "1/16", "share 011 101": "3/16", "number 000": "20"}
ZEROS = {"share 11": "0/1", "share 10": "2/3", "share 01": "1/3", "share 01 10": "1/1", "share 00": "1/1", "number 11": "0",
         "room 00": "none", "room 11": "none", "room 01": "0 0", "failing": "01 10", "hindering": "01 / 10", "total": "3"}


class Answers(Case):
    def test_by_hand(self):
        tables = [(lamps(), LAMPS), (odd(), ODD), (like(), LIKE), (THREE, BY_THREE), (Shares(AB, (0, 1, 2, 0)), ZEROS)]
        for shares, table in tables:
            console = Console(shares)
            for line, answer in table.items():
                self.assertIs(console.say(line).__class__, str)
                self.assertEqual(console.say(line), answer, (shares.text(), line))
                self.assertEqual(console.say(line=line), answer)

    def test_one_mark_and_great_numbers(self):
        console = Console(Shares(("lamp",), (MOST, MOST)))
        told = {"marks": "lamp", "total": str(2 * MOST), "number 1": str(MOST), "share 1": "1/2", "share 0": "1/1", "room 0": "0 free",
                "room 1": "0 free", "fits": "yes", "kind": "yes", "kind held": "yes", "failing": "none", "hindering": "none"}
        for line, answer in told.items():
            self.assertEqual(console.say(line), answer)
        console = Console(Shares(AB, (MOST, 1, MOST, MOST)))
        self.assertEqual(console.say("room 01"), f"0 {MOST}")
        console = Console(Shares(AB, (1, MOST, MOST, 1)))
        self.assertEqual(console.say("room 11"), f"{MOST ** 2} free")

    def test_hindering_with_several_least_rows(self):
        for shares in mixed(1, 3, 10) + full(2, 20, 3, 4) + full(3, 3, 4, 9):
            pair, answer = hindering(shares), Console(shares).say("hindering")
            if pair is None:
                self.assertEqual(answer, "none")
                continue
            texts = []
            for lot in pair:
                texts.append(" ".join(row for row in lot if not any(is_over(row, low) for low in lot if low != row)))
            self.assertEqual(answer, " / ".join(texts))

    def test_hindering_by_hand(self):
        # Of the rows "010" and "100" one lot has the one alone, the other lot the other; both begin with "001".
        self.assertEqual(Console(Shares(ABC, (0, 0, 1, 0, 1, 0, 0, 0))).say("hindering"), "001 010 / 001 100")
        self.assertEqual(Console(Shares(ABC, (0, 0, 0, 1, 1, 0, 0, 0))).say("hindering"), "001 010 / 100")

    def test_shares_of_drawn_rows(self):
        chance = random.Random(4)
        for size in (1, 2, 3, 4):
            for shares in mixed(5, size, 3):
                console = Console(shares)
                for many in range(1, 17):
                    rows = [chance.choice(all_rows(size)) for _ in range(many)]
                    lot = [row for row in all_rows(size) if any(is_over(row, low) for low in rows)]
                    share = Fraction(sum(shares.number(row) for row in lot), shares.total)
                    self.assertEqual(console.say("share " + " ".join(rows)), f"{share.numerator}/{share.denominator}")

    def test_other_answers_of_drawn_shares(self):
        for size in (1, 2, 3, 4):
            for shares in mixed(6, size, 3):
                console = Console(shares)
                pair = failing(shares)
                self.assertEqual(console.say("marks"), " ".join(MARKS[:size]))
                self.assertEqual(console.say("total"), str(sum(shares.numbers)))
                self.assertEqual(console.say("fits"), "yes" if pair is None else "no")
                self.assertEqual(console.say("failing"), "none" if pair is None else f"{pair[0]} {pair[1]}")
                self.assertEqual(console.say("kind"), "yes" if hindering(shares) is None else "no")
                self.assertEqual(console.say("kind held"), "yes" if is_kind_held(shares) else "no")
                for row, number in zip(all_rows(size), shares.numbers):
                    self.assertEqual(console.say("number " + row), str(number))
                    bounds = room(shares, row)
                    answer = "none" if bounds is None else f"{bounds[0]} {'free' if bounds[1] is None else bounds[1]}"
                    self.assertEqual(console.say("room " + row), answer)


class NoLines(Case):
    def test_no_strings(self):
        console = Console(lamps())
        for value in strange() + [0, 1, b"marks", ("marks",), ["total"], lamps()]:
            self.fails("InvalidLine", value, console.say, value)
            self.fails("InvalidLine", value, console.say, line=value)

    def test_a_word_more_or_less_and_other_blanks(self):
        for shares in (lamps(), odd(), THREE):
            console, row = Console(shares), "0" * len(shares.marks)
            right = ["marks", "total", "number " + row, "share " + row, "share " + row + " " + row, "fits", "kind", "kind held",
                     "failing", "hindering", "room " + row]
            for line in right:
                self.assertTrue(console.say(line))
                wrong = [line + " ", " " + line, line + "  ", "\t" + line, line + "\n", line + "\t", line + " x", line + " held",
                         "x " + line, line + "x", line.upper(), line.title(), line[1:], line[:-1], line + " marks", line + "\u00a0",
                         line + " 2", line + " " + "0" * (len(row) + 1), line + " " + "0" * (len(row) - 1)]
                if " " in line:
                    wrong += [line.replace(" ", "  "), line.replace(" ", "\t"), line.replace(" ", ""), line.replace(" ", "\u00a0"),
                              line.replace(" ", ", "), line.replace(" ", "\n")]
                if not line.startswith("share"):
                    wrong += [line + " " + row]
                for value in wrong:
                    if value not in right:
                        self.fails("InvalidLine", value, console.say, value)

    def test_other_lines(self):
        console = Console(lamps())
        wrong = ["", " ", "  ", "\n", "none", "lamp", "door", "help", "held", "held kind", "kind  held", "kindheld", "near failing",
                 "number", "number ", "number  00", "number 0", "number 000", "number 02", "number lamp", "number 00 01", "number 00,",
                 "share", "share ", "share 0", "share 01 1", "share 01 2", "share 01  10", "share 01, 10", "share 01 10 ", "share none",
                 "share 01 101", "share " + " ".join(["01"] * 17), "share " + " ".join(["01"] * 1300),
                 "share " + " ".join(["01"] * 16 + ["2"]), "room", "room ", "room 0", "room 000", "room 00 01", "room 12", "00",
                 "number \u0660\u0660", "share \u0661\u0661", "climbs", "text", "share 01\n10", "number 00\n", "x" * 4000, " " * 4000,
                 "number " + "0" * 3990, "1" * 60, "share " + "1" * 60, "fits fits", "marks marks", "total 6", "kind kind"]
        for line in wrong:
            self.fails("InvalidLine", line, console.say, line)
            self.fails("InvalidLine", line, console.say, line=line)

    def test_sixteen_and_seventeen_rows(self):
        for size in (1, 2, 3, 4):
            console = Console(Shares(MARKS[:size], (1,) * 2 ** size))
            rows = (all_rows(size) * 16)[:16]
            self.assertEqual(console.say("share " + " ".join(rows)), "1/1")
            line = "share " + " ".join(rows + rows[:1])
            self.fails("InvalidLine", line, console.say, line)

    def test_rows_of_other_marks(self):
        for one, two in itertools.permutations((1, 2, 3, 4), 2):
            console = Console(Shares(MARKS[:one], (1,) * 2 ** one))
            for word in ("number", "share", "room"):
                line = f"{word} {'1' * two}"
                self.fails("InvalidLine", line, console.say, line)


class Made(Case):
    def test_no_shares(self):
        for value in no_shares():
            self.fails("NotShares", value, Console, value)
            self.fails("NotShares", value, Console, shares=value)

    def test_the_attribute(self):
        shares = lamps()
        self.assertIs(Console(shares).shares, shares)
        self.assertIs(Console(shares=shares).shares, shares)
        self.assertIn("shares", vars(Console(shares)))
        self.assertIn("say", vars(Console))
        self.assertIn("__init__", vars(Console))
        self.assertEqual((Console.__module__, consoles.__name__), ("wishesrise.consoles", "wishesrise.consoles"))

    def test_true_and_equal_to_itself_alone(self):
        one, two = Console(lamps()), Console(lamps())
        self.assertIs(bool(one), True)
        self.assertIs(one == one, True)
        self.assertIs(one != one, False)
        for other in (two, lamps(), None, "marks", 0, ()):
            self.assertIs(one == other, False)
            self.assertIs(one != other, True)

    def test_nothing_is_altered(self):
        shares = Shares(AB, (1, 2, 2, 1))
        console = Console(shares)
        for _ in range(2):
            for line, answer in ODD.items():
                self.assertEqual(console.say(line), answer)
            self.fails("InvalidLine", "x", console.say, "x")
        self.assertIs(console.shares, shares)
        self.assertEqual((shares.marks, shares.numbers, shares.total), (AB, (1, 2, 2, 1), 6))


class Samples(unittest.TestCase):
    def test_the_shares_told(self):
        told = {like: (AB, (2, 1, 1, 2)), odd: (AB, (1, 2, 2, 1)), lamps: (("lamp", "door"), (3, 1, 0, 2))}
        for make, (marks, numbers) in told.items():
            self.assertIs(make().__class__, Shares)
            self.assertEqual((make().marks, make().numbers), (marks, numbers))
            self.assertEqual(make(), make())
            self.assertEqual(make.__module__, "wishesrise.samples")
        self.assertEqual(lamps().text(), "marks lamp, door\n00: 3\n01: 1\n11: 2")
        self.assertEqual(samples.lamps(), Shares.read("marks lamp, door\n00: 3\n01: 1\n11: 2"))


if __name__ == "__main__":
    unittest.main()
