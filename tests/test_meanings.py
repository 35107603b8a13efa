"""[14]: the errors of texts that are programs but for what their numbers and names mean, and the order of these."""

import itertools
import random
import unittest

from fadinginks.errors import BadClaim, BadNumber, InvalidText, NoCell, NoStart, Twice, Unknown
from fadinginks.reading import check
from fadinginks.running import printed, run
from tests.helpers import cut_words, loose

BASE = "cells 2; ink RED 5; write 0 a RED 0..2; reader R write 0: 0 at 0..2, 1 at 0..0; "
FULL = BASE + "ink B 1; ink C 1; ink D 1; " + "write 1 b RED 0..0; " * 7
# For each kind of statement: its words, and for each number of one of them the wrong words there with their errors.
INK = ("ink NEW 7 ;", {1: [("RED", Twice), ("R", Twice)], 2: [("0", BadNumber), ("51", BadNumber), ("999", BadNumber)]})
WRITE = ("write 1 z RED 3 .. 50 ;", {
    1: [("2", NoCell), ("999", NoCell)], 3: [("NEW", Unknown), ("R", Unknown)],
    4: [("51", BadNumber), ("999", BadNumber)],
    6: [("51", BadNumber), ("2", BadNumber), ("0", BadNumber), ("999", BadNumber)],
})
READER = ("reader NEW write 0 : 1 at 4 .. 200 , 0 at 200 .. 200 , 1 at 1 .. 1 ;", {
    1: [("RED", Twice), ("R", Twice)], 3: [("8", NoStart), ("999", NoStart)],
    5: [("2", NoCell)], 7: [("201", BadNumber)], 9: [("201", BadNumber), ("3", BadNumber)],
    11: [("2", NoCell), ("10", NoCell)], 13: [("201", BadNumber)], 15: [("199", BadNumber), ("999", BadNumber)],
    17: [("2", NoCell)], 19: [("2", BadNumber)], 21: [("0", BadNumber)],
})
READS = ("ask reads R ;", {2: [("NEW", Unknown), ("RED", Unknown)]})
SURE = ("ask sure R 0 sees a or 1 bare and 0 like 1 ;", {
    2: [("NEW", Unknown), ("RED", Unknown)], 3: [("2", BadClaim)], 7: [("2", BadClaim)], 10: [("999", BadClaim)],
    12: [("2", BadClaim), ("10", BadClaim)],
})
SLACK = ("ask slack R 50 0 sees a ;", {
    2: [("NEW", Unknown), ("RED", Unknown)], 3: [("51", BadNumber), ("999", BadNumber)], 4: [("2", BadClaim)],
})
KINDS = (INK, WRITE, READER, READS, SURE, SLACK)


def statement(kind, wrongs):
    """Return the statement of this kind with these words at their numbers."""
    words = kind[0].split()
    for at, word in wrongs.items():
        words[at] = word
    return " ".join(words)


class Meanings(unittest.TestCase):
    def check_error(self, text, error, name=None):
        """Check that the error is raised by all that take a program, with the name if it tells one."""
        for taker in (check, printed, run):
            with self.assertRaises(error, msg=(taker.__name__, text)) as caught:
                taker(text)
            self.assertIs(type(caught.exception), error, text)
            if error in (Unknown, Twice):
                self.assertEqual(caught.exception.name, name, text)


class StatementsTest(Meanings):
    def test_right_ones(self):
        for kind in KINDS:
            check(BASE + kind[0])
        check(BASE + " ".join(kind[0] for kind in KINDS).replace("reader NEW", "reader SEEN"))

    def test_one_wrong(self):
        for kind in KINDS:
            for at, wrongs in kind[1].items():
                for word, error in wrongs:
                    self.check_error(BASE + statement(kind, {at: word}), error, word)

    def test_several_wrong_in_one_statement(self):
        for kind in KINDS:
            for many in (2, 3, 4):
                for places in itertools.combinations(kind[1], many):
                    for turn in range(3):
                        chosen = [kind[1][at][turn % len(kind[1][at])] for at in places]
                        text = BASE + statement(kind, dict(zip(places, [word for word, _ in chosen])))
                        self.check_error(text, chosen[0][1], chosen[0][0])

    def test_several_wrong_statements(self):
        chance = random.Random(141)
        rows = [(kind, at, word, error) for kind in KINDS for at, ws in kind[1].items() for word, error in ws]
        for first in rows:
            for second in chance.sample(rows, 12):
                text = BASE + " ".join(statement(kind, {at: word}) for kind, at, word, _ in (first, second))
                self.check_error(text, first[3], first[2])

    def test_behind_the_place(self):
        for kind in KINDS:
            for at, wrongs in kind[1].items():
                text = BASE + statement(kind, {at: wrongs[0][0]})
                for more, place in (("ink", len(text) + 3), ("$", len(text)), ("cells 2;", len(text))):
                    self.check_error(text + more, InvalidText)
                    with self.assertRaises(InvalidText) as caught:
                        check(text + more)
                    self.assertEqual(caught.exception.place, place)

    def test_loosely_written(self):
        chance = random.Random(142)
        for kind in KINDS:
            for at, wrongs in kind[1].items():
                for word, error in wrongs:
                    text, _ = loose(chance, cut_words(BASE + statement(kind, {at: word})))
                    self.check_error(text, error, word)


class BoundsTest(Meanings):
    def test_cells(self):
        for cells in (1, 2, 3, 4):
            check(f"cells {cells}; reader R begin: {cells - 1} at 0..0;")
            self.check_error(f"cells {cells}; reader R begin: {cells} at 0..0;", NoCell)
            self.check_error(f"cells {cells}; ink RED 5; write {cells} a RED 0..0;", NoCell)
        for cells in (0, 5, 10, 999):
            self.check_error(f"cells {cells};", BadNumber)
            self.check_error(f"cells {cells}; ink RED 5; ink RED 5; reader R begin: 7 at 0..0;", BadNumber)

    def test_stays(self):
        for stay in (1, 50):
            check(f"cells 1; ink RED {stay};")
        for stay in (0, 51, 100):
            self.check_error(f"cells 1; ink RED {stay};", BadNumber)

    def test_rests(self):
        for low, high in ((0, 0), (0, 50), (50, 50), (49, 50)):
            check(BASE + f"write 0 a RED {low}..{high};")
        for low, high in ((0, 51), (51, 51), (1, 0), (50, 49), (51, 0)):
            self.check_error(BASE + f"write 0 a RED {low}..{high};", BadNumber)
        for low, high in ((0, 0), (0, 200), (200, 200), (51, 60)):
            check(BASE + f"reader Q begin: 0 at {low}..{high};")
        for low, high in ((0, 201), (201, 201), (1, 0), (200, 199)):
            self.check_error(BASE + f"reader Q begin: 0 at {low}..{high};", BadNumber)
            self.check_error(BASE + f"reader Q begin: 0 at 0..0, 0 at {low}..{high};", BadNumber)

    def test_slack(self):
        for most in (0, 1, 50):
            check(BASE + f"ask slack R {most} 0 bare;")
        for most in (51, 100, 999):
            self.check_error(BASE + f"ask slack R {most} 0 bare;", BadNumber)

    def test_inks(self):
        check(FULL)
        self.check_error(FULL + "ink E 1;", BadNumber)
        self.check_error(FULL + "ink E 1; ink E 1; ask reads X;", BadNumber)
        # All else of the statement comes ahead.
        self.check_error(FULL + "ink RED 1;", Twice, "RED")
        self.check_error(FULL + "ink R 0;", Twice, "R")
        self.check_error(FULL + "ink E 0;", BadNumber)

    def test_writes(self):
        self.check_error(FULL + "write 0 a RED 0..0;", BadNumber)
        self.check_error(FULL + "write 0 a RED 0..0; write 2 a RED 0..0;", BadNumber)
        self.check_error(FULL + "write 2 a RED 0..0;", NoCell)
        self.check_error(FULL + "write 0 a NEW 0..0;", Unknown, "NEW")
        self.check_error(FULL + "write 0 a RED 1..0; ink RED 1;", BadNumber)
        self.check_error(FULL.replace("ink B 1; ", "") + "write 0 a B 0..0;", Unknown, "B")

    def test_looks(self):
        self.check_error(BASE + "reader Q begin: 0 at 0..0, 1 at 0..0, 0 at 0..0, 1 at 0..0;", BadNumber)
        looks = "reader Q begin: 0 at 0..0, 1 at 0..0, 0 at 0..0, "
        self.check_error(BASE + looks + "2 at 0..0;", NoCell)
        self.check_error(BASE + looks + "1 at 0..0, 2 at 0..0;", BadNumber)
        self.check_error(BASE + looks + "1 at 1..0, 2 at 0..0;", BadNumber)
        self.check_error(BASE + "reader R begin: 0 at 0..0, 1 at 0..0, 0 at 0..0, 1 at 0..0;", Twice, "R")
        self.check_error(BASE + "reader Q write 1: 0 at 0..0, 1 at 0..0, 0 at 0..0, 1 at 0..0;", NoStart)
        self.check_error(BASE + "reader Q begin: 0 at 0..0, 1 at 0..0, 2 at 0..0, 1 at 0..0;", NoCell)
        self.check_error(BASE + "reader Q begin: " + "0 at 0..0, " * 100 + "7 at 0..0;", BadNumber)

    def test_starts(self):
        for start in range(8):
            check(FULL + f"reader Q write {start}: 0 at 0..0;")
        for start in (8, 9, 10, 999):
            self.check_error(FULL + f"reader Q write {start}: 0 at 0..0;", NoStart)
        self.check_error("cells 1; reader Q write 0: 0 at 0..0;", NoStart)
        # Only what stands ahead is there.
        self.check_error(BASE + "reader Q write 1: 0 at 0..0; write 0 a RED 0..0;", NoStart)

    def test_parts(self):
        chains = [("not " * 19 + "0 bare", "not " * 20 + "0 bare"),
                  ("not 0 bare" + " or 0 bare" * 9, "0 bare" + " or 0 bare" * 10),
                  ("0 like 1 and not 0 bare" + " and 1 sees a" * 8, "0 like 1" + " and 1 sees a" * 10),
                  ("not (0 bare or 1 bare and 0 sees a)" + " or 0 bare" * 7,
                   "0 sees a or (1 bare and 0 bare)" + " or 1 bare and 0 bare" * 4)]
        for right, wrong in chains:
            for ask in ("sure R", "slack R 7"):
                check(BASE + f"ask {ask} {right};")
                self.check_error(BASE + f"ask {ask} {wrong};", BadClaim)
        # Brackets are no parts.
        check(BASE + "ask sure R " + "(" * 30 + "not " * 19 + "0 bare" + ")" * 30 + ";")

    def test_looks_of_claims(self):
        for looks in (1, 2, 3):
            head = BASE + "reader Q begin: " + ", ".join(["0 at 0..0"] * looks) + "; "
            for look in (0, 1, 2, 3, 10, 999):
                for claim in (
                    f"{look} bare", f"{look} sees a", f"{look} like 0", f"0 like {look}", f"not 0 bare or {look} bare",
                ):
                    for ask in ("sure Q", "slack Q 0"):
                        if look < looks:
                            check(head + f"ask {ask} {claim};")
                        else:
                            self.check_error(head + f"ask {ask} {claim};", BadClaim)
        self.check_error(BASE + "ask slack R 51 9 bare;", BadNumber)
        self.check_error(BASE + "ask slack Q 51 9 bare;", Unknown, "Q")


class NamesTest(Meanings):
    def test_inks_and_readers_together(self):
        self.check_error("cells 1; ink A 1; ink A 1;", Twice, "A")
        self.check_error("cells 1; ink A 1; reader A begin: 0 at 0..0;", Twice, "A")
        self.check_error("cells 1; reader A begin: 0 at 0..0; ink A 1;", Twice, "A")
        self.check_error("cells 1; reader A begin: 0 at 0..0; reader A begin: 0 at 0..0;", Twice, "A")
        check("cells 1; ink A 1; ink AA 1; reader AAA begin: 0 at 0..0; reader AAAA begin: 0 at 0..0;")

    def test_only_what_stands_ahead(self):
        self.check_error("cells 1; write 0 a A 0..0; ink A 1;", Unknown, "A")
        self.check_error("cells 1; ask reads A; reader A begin: 0 at 0..0;", Unknown, "A")
        self.check_error("cells 1; ask sure ABCDEFGH 0 bare;", Unknown, "ABCDEFGH")
        self.check_error("cells 1; ask slack A 0 0 bare; reader A begin: 0 at 0..0;", Unknown, "A")

    def test_of_the_other_kind(self):
        self.check_error(BASE + "write 0 a R 0..0;", Unknown, "R")
        for ask in ("reads RED", "sure RED 0 bare", "slack RED 0 0 bare"):
            self.check_error(BASE + f"ask {ask};", Unknown, "RED")


if __name__ == "__main__":
    unittest.main()
