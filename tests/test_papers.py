"""[9]: papers and their judging."""

import copy
import itertools
import random
import unittest

from fadinginks.claims import breaks, holds, judged, paper
from fadinginks.readers import cases, differences, read, ring
from tests.helpers import (
    WRONG, all_timetables, broken, choice_at, full_plans, has_negative_ring, is_told, small_pairs, some_claim, text_of,
)

PLAN = (1, (5, 2), ((0, "a", 0, 0, 2), (0, "b", 1, 1, 2)))
READER = (1, ((0, 0, 0), (0, 1, 2)))
CLAIM = ("sees", 0, "b")


def all_choices(plan, reader):
    """Return all choices of cases."""
    return list(itertools.product(*[cases(plan, reader, at) for at in range(len(reader[1]))]))


def breaking_choices(plan, reader, claim):
    """Return the choices whose readings break the claim."""
    return [choice for choice in all_choices(plan, reader) if not is_told(text_of(plan, choice), claim)]


def is_ring(plan, reader, choice, value):
    """Tell whether the value is a ring of the choice, by the document's words."""
    told = {(x, y): c for x, y, c in differences(plan, reader, choice)}
    events = 1 + len(plan[2]) + len(reader[1])
    if type(value) is not tuple or any(type(event) is not int or not 0 <= event < events for event in value):
        return False
    steps = [(event, value[(at + 1) % len(value)]) for at, event in enumerate(value)]
    if len(set(value)) < len(value) or any(step not in told for step in steps):
        return False
    return sum(told[step] for step in steps) < 0


class PaperCase(unittest.TestCase):
    def check_paper(self, plan, reader, claim):
        """Check the paper by the document's words, and that it is judged right; return its word."""
        made = paper(plan, reader, claim)
        self.assertIs(type(made), tuple)
        word, shown = made
        kept = copy.deepcopy(made)
        self.assertIs(judged(plan, reader, claim, made), True, (plan, reader, claim))
        self.assertEqual(made, kept)
        if word == "breaks":
            self.assertIs(is_told(text_of(plan, choice_at(plan, reader, shown)), claim), False)
            return word
        self.assertEqual(word, "holds")
        self.assertEqual(set(shown), set(breaking_choices(plan, reader, claim)))
        for choice, told in shown.items():
            self.assertTrue(is_ring(plan, reader, choice, told), (plan, reader, choice, told))
        return word


class SmallTest(PaperCase):
    def test_papers_of_small_plans(self):
        chance = random.Random(8)
        words = []
        for plan, reader in small_pairs():
            texts = {text_of(plan, choice_at(plan, reader, made)) for made in all_timetables(plan, reader)}
            for turn in range(3):
                claim = some_claim(chance, len(reader[1]), 1 + 2 * turn)
                word = self.check_paper(plan, reader, claim)
                self.assertEqual(word == "holds", all(is_told(text, claim) for text in texts))
                words.append(word)
        self.assertGreater(words.count("holds"), 40)
        self.assertGreater(words.count("breaks"), 40)

    def test_papers_of_what_just_holds(self):
        # The claim that one of the readings that come is read: all other choices break it.
        for plan, reader in small_pairs()[::2]:
            texts = sorted({text_of(plan, choice_at(plan, reader, made)) for made in all_timetables(plan, reader)})
            if len(texts) * (2 * len(reader[1])) <= 20:
                rows = []
                for text in texts:
                    row = ("sees", 0, text[0])
                    for look in range(1, len(text)):
                        row = ("and", row, ("sees", look, text[look]))
                    rows.append(row)
                claim = rows[0]
                for row in rows[1:]:
                    claim = ("or", claim, row)
                self.assertEqual(self.check_paper(plan, reader, claim), "holds")

    def test_a_claim_that_no_choice_breaks(self):
        for claim in (("alike", 0, 0), ("not", ("sees", 1, "z")), ("or", CLAIM, ("not", CLAIM))):
            self.assertEqual(paper(PLAN, READER, claim), ("holds", {}))
            self.assertIs(judged(PLAN, READER, claim, ("holds", {})), True)
            self.assertIs(judged(PLAN, READER, claim, ("holds", {((0, None), (0, None)): (0, 1)})), False)

    def test_the_breaks_paper_tells_a_timetable_that_breaks(self):
        claim = ("sees", 1, "b")
        self.assertEqual(self.check_paper(PLAN, READER, claim), "breaks")
        for timetable in all_timetables(PLAN, READER):
            told = read(PLAN, READER, timetable)[1] != "b"
            self.assertIs(judged(PLAN, READER, claim, ("breaks", timetable)), told)


class JudgedTest(PaperCase):
    def judge(self, made, told, claim=CLAIM):
        kept = copy.deepcopy(made)
        self.assertIs(judged(PLAN, READER, claim, made), told, made)
        self.assertEqual(made, kept)

    def test_any_value(self):
        for made in WRONG + ["holds", "breaks", ("holds",), ("breaks",), (), ("holds", {}), ("breaks", ()), (None, {})]:
            self.judge(made, False)
            self.judge(made, False, ("sees", 1, "b"))
        for wrong in WRONG:
            for word in ("holds", "breaks"):
                self.judge((word, wrong), False)
                self.judge((word, wrong), False, ("sees", 1, "b"))

    def test_words(self):
        _, rings = paper(PLAN, READER, CLAIM)
        self.judge(("holds", rings), True)
        for word in WRONG + ["Holds", "hold", "", "breaks", "holds ", ("holds",)]:
            self.judge((word, rings), False)
        self.judge(("holds", rings, None), False)
        self.judge(["holds", rings], False)
        self.judge(("breaks", rings), False)
        self.judge({0: "holds", 1: rings}, False)

    def test_timetables_wrong_anywhere(self):
        claim = ("sees", 1, "b")
        timetable = ((2, 2), (0, 2))
        self.judge(("breaks", timetable), True, claim)
        self.judge(("holds", timetable), False, claim)
        wrongs = [made for _, _, made in broken(timetable)]
        wrongs += [((3, 2), (0, 2)), ((2, 0), (0, 2)), ((2, 2), (1, 2)), ((2, 2), (0, 3)), ((2, 2), (False, 2))]
        for wrong in wrongs + [((2, 2), (0, 2, 0)), ((2,), (0, 2)), ((2, 2), (0, 1))]:
            self.judge(("breaks", wrong), False, claim)
        # What holds is broken by no timetable.
        for right in all_timetables(PLAN, READER):
            self.judge(("breaks", right), False)

    def test_rings_left_out_and_added(self):
        _, rings = paper(PLAN, READER, CLAIM)
        for choice in rings:
            self.judge(("holds", {key: rings[key] for key in rings if key != choice}), False)
        told = breaking_choices(PLAN, READER, CLAIM)
        for choice in all_choices(PLAN, READER):
            if choice not in told:
                found = ring(PLAN, READER, choice)
                self.judge(("holds", {**rings, choice: found}), False)
                for other in (found, (0, 1, 2), None):
                    # One is left out where another is added, so that there are just as many.
                    self.judge(("holds", {**{key: rings[key] for key in told[1:]}, choice: other}), False)
        for key in (None, 0, "", (), told[0][:1], told[0] + told[0][:1], (told[0],), str(told[0])):
            self.judge(("holds", {**rings, key: rings[told[0]]}), False)
            self.judge(("holds", {**{choice: rings[choice] for choice in told[1:]}, key: rings[told[0]]}), False)

    def test_keys_are_never_bools(self):
        _, rings = paper(PLAN, READER, CLAIM)
        for number in (0, 1):
            for at, place in itertools.product((0, 1), repeat=2):
                swapped, many = {}, 0
                for choice, told in rings.items():
                    row = [list(case) for case in choice]
                    if row[at][place] == number:
                        row[at][place] = bool(number)
                        many += 1
                    swapped[tuple(map(tuple, row))] = told
                self.assertEqual(swapped, rings)
                self.judge(("holds", swapped), many == 0)

    def test_rings_wrong_anywhere(self):
        _, rings = paper(PLAN, READER, CLAIM)
        for choice, told in list(rings.items())[::3]:
            for _, _, wrong in broken(told):
                self.judge(("holds", {**rings, choice: wrong}), False)

    def test_every_tuple_of_events_is_judged_by_the_words(self):
        _, rings = paper(PLAN, READER, CLAIM)
        found = []
        tuples = [made for many in range(5) for made in itertools.product(range(6), repeat=many)]
        for choice in list(rings)[::5]:
            for made in tuples:
                told = is_ring(PLAN, READER, choice, made)
                self.judge(("holds", {**rings, choice: made}), told)
                found.append(told)
        self.assertGreater(found.count(True), 20)

    def test_rings_found_elsewhere(self):
        # Those of the function ring, and any turned one, are rings as well.
        _, rings = paper(PLAN, READER, CLAIM)
        self.judge(("holds", {choice: ring(PLAN, READER, choice) for choice in rings}), True)
        for many in (1, 2, 3):
            turned = {choice: told[many % len(told):] + told[:many % len(told)] for choice, told in rings.items()}
            self.judge(("holds", turned), True)

    def test_bools_and_lists_in_rings(self):
        _, rings = paper(PLAN, READER, CLAIM)
        for choice, told in rings.items():
            self.judge(("holds", {**rings, choice: list(told)}), False)
            for number in {0, 1} & set(told):
                made = tuple(bool(event) if event == number else event for event in told)
                self.judge(("holds", {**rings, choice: made}), False)

    def test_the_order_of_the_choices_is_free(self):
        _, rings = paper(PLAN, READER, CLAIM)
        self.judge(("holds", dict(sorted(rings.items(), reverse=True, key=repr))), True)


class EndsTest(PaperCase):
    """Papers at the ends: 45 cases for each of three looks, so up to 91125 choices."""

    def check_full(self, plan, reader, claim):
        """Check a paper of so many choices that only some of them are gone through by the words."""
        word, shown = paper(plan, reader, claim)
        self.assertIs(judged(plan, reader, claim, (word, shown)), True)
        self.assertEqual(word == "holds", holds(plan, reader, claim))
        if word == "breaks":
            self.assertIs(is_told(read(plan, reader, shown), claim), False)
            return 0
        for choice in list(shown)[::997]:
            self.assertTrue(is_ring(plan, reader, choice, shown[choice]))
            self.assertTrue(has_negative_ring(1 + len(plan[2]) + 3, differences(plan, reader, choice)))
        for last in list(shown)[-1:]:
            self.assertIs(judged(plan, reader, claim, (word, {**shown, last: (0, 1, 2)})), False)
            fewer = {choice: told for choice, told in shown.items() if choice != last}
            self.assertIs(judged(plan, reader, claim, (word, fewer)), False)
        return len(shown)

    def test_looks_of_one_tick_see_alike(self):
        claim = ("and", ("alike", 0, 1), ("alike", 1, 2))
        for plan in full_plans():
            for first in ((0, 0, 200), (0, 200, 200)):
                reader = (0, (first, (0, 0, 0), (0, 0, 0)))
                signs = [text_of(plan, [case]) for case in cases(plan, reader, 0)]
                many = sum(not one == two == three for one, two, three in itertools.product(signs, repeat=3))
                self.assertEqual(self.check_full(plan, reader, claim), many)

    def test_one_timetable_whose_reading_only_one_claim_tells(self):
        writes = tuple((0, "abcdefgh"[at], at % 4, 50, 50) for at in range(8))
        plan = (1, (50, 1, 7, 30), writes)
        reader = (7, ((0, 0, 0), (0, 29, 29), (0, 1, 1)))
        claim = ("and", ("sees", 0, "h"), ("and", ("sees", 1, "h"), ("sees", 2, ".")))
        self.assertGreater(self.check_full(plan, reader, claim), 90000)
        self.assertEqual(self.check_full(plan, reader, ("not", claim)), 0)
        late = (7, ((0, 0, 0), (0, 29, 29), (0, 0, 1)))
        self.assertEqual(self.check_full(plan, late, claim), 0)
        self.assertEqual(breaks(plan, late, claim), ((50,) * 8, (0, 29, 0)))

    def test_claims_of_20_parts(self):
        chance = random.Random(9)
        for plan in full_plans()[:4]:
            writes = tuple(write[:3] + (25, 26) for write in plan[2])
            for start in (None, 7):
                reader = (start, ((0, 0, 200), (plan[0] - 1, 100, 200), (0, 0, 200)))
                for _ in range(2):
                    self.check_full((plan[0], plan[1], writes), reader, some_claim(chance, 3, 20))
