"""[1], [8] and [13]: claims, whether they hold, and the slack they leave."""

import copy
import random
import unittest

from fadinginks.claims import breaks, holds, is_so, judged, paper, slack
from fadinginks.errors import BadClaim, BadNumber, BadPlan, BadReader, BadReading
from fadinginks.readers import read
from tests.helpers import (
    WRONG, all_timetables, broken, check_order, check_wrongs, choice_at, full_plans, is_told, run_example, small_pairs,
    some_claim, some_plan, some_reader, text_of,
)

EXAMPLE = """
>>> from fadinginks.claims import breaks, holds, is_so, judged, paper, slack
>>> plan = (1, (5, 2), ((0, "a", 0, 0, 2), (0, "b", 1, 1, 2)))
>>> reader, claim = (1, ((0, 0, 0), (0, 1, 2))), ("sees", 0, "b")
>>> [is_so("b.", ("and", claim, ("not", ("alike", 0, 1)))), holds(plan, reader, claim), breaks(plan, reader, claim), \
slack(plan, reader, claim, 9)]
[True, True, None, 9]
>>> [judged(plan, reader, claim, paper(plan, reader, claim)), holds(plan, reader, ("not", ("sees", 1, "."))), \
paper(plan, reader, ("sees", 1, "b"))[0]]
[True, True, 'breaks']
>>> slack(plan, reader, ("not", ("sees", 1, ".")), 9)
0
"""
PLAN = (1, (5, 2), ((0, "a", 0, 0, 2), (0, "b", 1, 1, 2)))
READER = (1, ((0, 0, 0), (0, 1, 2)))
CLAIM = ("sees", 0, "b")
# One of each kind of part, that holds at every reading.
DEEP = ("or", ("and", ("not", ("sees", 0, ".")), ("alike", 0, 1)), ("not", ("alike", 1, 1)))


def many_parts(parts):
    """Return claims of just so many parts, of unlike shapes."""
    chain = CLAIM
    for _ in range(parts - 1):
        chain = ("not", chain)
    row = CLAIM if parts % 2 else ("not", CLAIM)
    for _ in range((parts - 1) // 2):
        row = ("and", row, ("alike", 0, 0))
    return [chain, row]


def shared(depth):
    """Return a claim nested so deep that holds the same tuples again and again: of 2 ** depth - 1 parts."""
    claim = CLAIM
    for _ in range(depth - 1):
        claim = ("or", claim, claim)
    return claim


def asked(function, claim):
    """Return the answer to a claim on READER's looks of one of the functions that take one."""
    if function is is_so:
        return is_so("ab", claim)
    more = {slack: [9], judged: [None]}.get(function, [])
    return function(PLAN, READER, claim, *more)


class ValuesTest(unittest.TestCase):
    FUNCTIONS = (is_so, holds, breaks, paper, judged, slack)

    def check_claim(self, claim, told):
        """Check in all functions whether the claim is one on two looks."""
        kept = copy.deepcopy(claim)
        for function in self.FUNCTIONS:
            if told:
                asked(function, claim)
            else:
                with self.assertRaises(BadClaim, msg=(function.__name__, claim)) as caught:
                    asked(function, claim)
                self.assertIs(type(caught.exception), BadClaim)
        self.assertEqual(claim, kept)

    def test_order_of_errors(self):
        plans, makers = (WRONG + [PLAN[:2]], BadPlan), (WRONG + [(0, ()), (2, READER[1])], BadReader)
        claims = (WRONG + [("sees", 2, "b"), ("not",)], BadClaim)
        for function in (holds, breaks, paper):
            check_order(self, function, [PLAN, READER, CLAIM], [plans, makers, claims])
        numbers = (WRONG + [51], BadNumber)
        check_order(self, slack, [PLAN, READER, CLAIM, 9], [plans, makers, claims, numbers])
        texts = [wrong for wrong in WRONG if wrong != "abc"] + ["abcd", "a`", "{"]
        check_order(self, is_so, ["ab", CLAIM], [(texts, BadReading), claims])
        for made in WRONG:
            check_order(
                self, lambda plan, reader, claim: judged(plan, reader, claim, made),
                [PLAN, READER, CLAIM], [plans, makers, claims],
            )

    def test_claims(self):
        for claim in (CLAIM, DEEP, ("sees", 1, "."), ("sees", 0, "a"), ("sees", 0, "z"), ("alike", 0, 0)):
            self.check_claim(claim, True)

    def test_claims_wrong_anywhere(self):
        for _, _, claim in broken(DEEP):
            self.check_claim(claim, False)

    def test_signs(self):
        for sign in ("", "A", "`", "{", "ab", "..", ",", " ", "\u00e4", 0, None, ".a", ("a",), b"a"):
            self.check_claim(("sees", 0, sign), False)

    def test_words(self):
        for word in ("See", "sees ", "", "bare", "holds", "Not", None, 0, True, ("sees",), ["sees"], {}, b"sees"):
            self.check_claim((word, 0, "b"), False)
            self.check_claim((word, 0, 1), False)
            self.check_claim((word, CLAIM, CLAIM), False)
            self.check_claim((word, CLAIM), False)

    def test_how_many_things(self):
        for word, rest in (("sees", (0, "b")), ("alike", (0, 1)), ("not", (CLAIM,)), ("and", (CLAIM, CLAIM))):
            self.check_claim((word,) + rest, True)
            self.check_claim((word,) + rest[:-1], False)
            self.check_claim((word,) + rest + rest[-1:], False)
            self.check_claim([word] + list(rest), False)
        self.check_claim((), False)

    def test_looks_beyond(self):
        for looks in (1, 2, 3):
            text, reader = "abc"[:looks], (1, ((0, 0, 0),) * looks)
            for look in range(-1, 5):
                both = ("alike", look, look)
                for claim in (("sees", look, "a"), ("alike", look, 0), ("alike", 0, look), ("not", both)):
                    if 0 <= look < looks:
                        self.assertIsInstance(is_so(text, claim), bool)
                        self.assertIsInstance(holds(PLAN, reader, claim), bool)
                    else:
                        check_wrongs(self, is_so, [text, claim], 1, [claim], BadClaim)
                        check_wrongs(self, holds, [PLAN, reader, claim], 2, [claim], BadClaim)

    def test_looks_are_never_bools(self):
        for claim in (("sees", False, "b"), ("sees", True, "b"), ("alike", False, 1), ("alike", 0, True)):
            self.check_claim(claim, False)

    def test_how_many_parts(self):
        for parts in range(1, 26):
            for claim in many_parts(parts):
                self.check_claim(claim, parts <= 20)

    def test_parts_held_again_and_again(self):
        for depth, told in ((1, True), (4, True), (5, False), (29, False)):
            claim = shared(depth)
            for function in self.FUNCTIONS:
                if told:
                    asked(function, claim)
                else:
                    with self.assertRaises(BadClaim):
                        asked(function, claim)

    def test_readings_of_is_so(self):
        for text in ("a", ".", "z", "ab", "..", "abc", "z.z"):
            self.assertIs(is_so(text, ("sees", 0, text[0])), True)
        wrongs = ["", "abcd", "....", "A", "a`", "{b", "a ", "1.", "a\u00e4", ("a",), ["a", "b"], b"ab", 0, None, True]
        check_wrongs(self, is_so, ["ab", CLAIM], 0, wrongs, BadReading)

    def test_numbers_of_slack(self):
        for most in (0, 1, 49, 50):
            self.assertEqual(slack(PLAN, READER, CLAIM, most), most)
        check_wrongs(self, slack, [PLAN, READER, CLAIM, 0], 3, WRONG + [51, -1, True, False, None, "1"], BadNumber)
        # It is asked for whether or not the claim holds.
        check_wrongs(self, slack, [PLAN, READER, ("not", CLAIM), 0], 3, [51, None], BadNumber)

    def test_equal_calls_have_equal_answers(self):
        for function in (is_so, holds, slack):
            self.assertEqual(asked(function, DEEP), asked(function, copy.deepcopy(DEEP)))


class SmallTest(unittest.TestCase):
    def test_example(self):
        run_example(self, EXAMPLE, 6)

    def test_is_so_by_the_words(self):
        told = {
            ("sees", 0, "a"): "a", ("sees", 0, "."): ".", ("not", ("sees", 0, "a")): "b.",
            ("or", ("sees", 0, "a"), ("sees", 0, "b")): "ab", ("and", ("sees", 0, "a"), ("sees", 0, "b")): "",
            ("and", ("not", ("sees", 0, "a")), ("not", ("sees", 0, "b"))): ".", ("alike", 0, 0): "ab.",
        }
        for claim, signs in told.items():
            for sign in "ab.":
                self.assertIs(is_so(sign, claim), sign in signs, (sign, claim))
        self.assertIs(is_so("a.a", ("alike", 0, 2)), True)
        self.assertIs(is_so("a.a", ("alike", 2, 1)), False)
        self.assertIs(is_so("..a", ("alike", 0, 1)), True)

    def test_is_so_goes_through_all_parts(self):
        chance = random.Random(3)
        for _ in range(600):
            looks = chance.randint(1, 3)
            claim = some_claim(chance, looks, chance.randint(1, 20))
            text = "".join(chance.choice(".abc") for _ in range(looks))
            self.assertIs(is_so(text, claim), is_told(text, claim), (text, claim))

    def check_breaks(self, plan, reader, claim, told):
        """Check holds and breaks; told tells whether it holds."""
        self.assertIs(holds(plan, reader, claim), told, (plan, reader, claim))
        timetable = breaks(plan, reader, claim)
        if told:
            self.assertIsNone(timetable)
        else:
            self.assertTrue(all(type(rest) is int for rests in timetable for rest in rests))
            self.assertIs(is_so(read(plan, reader, timetable), claim), False)
            self.assertIs(is_told(text_of(plan, choice_at(plan, reader, timetable)), claim), False)

    def test_holds_at_all_timetables(self):
        chance = random.Random(4)
        held = []
        for plan, reader in small_pairs():
            texts = {text_of(plan, choice_at(plan, reader, made)) for made in all_timetables(plan, reader)}
            for turn in range(12):
                claim = some_claim(chance, len(reader[1]), 1 + turn)
                told = all(is_told(text, claim) for text in texts)
                self.check_breaks(plan, reader, claim, told)
                held.append(told)
        self.assertGreater(held.count(True), 100)
        self.assertGreater(held.count(False), 100)

    def test_a_claim_that_one_reading_breaks(self):
        for plan, reader in small_pairs()[::3]:
            texts = {text_of(plan, choice_at(plan, reader, made)) for made in all_timetables(plan, reader)}
            for text in texts:
                claim = ("not", ("sees", 0, text[0]))
                for look in range(1, len(text)):
                    claim = ("or", claim, ("not", ("sees", look, text[look])))
                self.check_breaks(plan, reader, claim, False)
                self.assertEqual(read(plan, reader, breaks(plan, reader, claim)), text)

    def test_slack_at_all_timetables(self):
        chance = random.Random(5)
        found = []
        for turn in range(60):
            plan = some_plan(chance, turn % 4, most=3, wide=1)
            reader = some_reader(chance, plan, 1 + turn % 2, most=3, wide=1)
            texts = []
            for more in range(4):
                wider = (plan[0], plan[1], tuple(write[:4] + (write[4] + more,) for write in plan[2]))
                texts.append({text_of(wider, choice_at(wider, reader, made)) for made in all_timetables(wider, reader)})
            for _ in range(6):
                claim = some_claim(chance, len(reader[1]), chance.randint(1, 6))
                for most in range(4):
                    told = None
                    for more in range(most + 1):
                        if all(is_told(text, claim) for text in texts[more]):
                            told = more
                    self.assertEqual(slack(plan, reader, claim, most), told, (plan, reader, claim, most))
                    found.append(told)
        for told in (None, 0, 1, 2, 3):
            self.assertGreater(found.count(told), 5, told)


class EndsTest(unittest.TestCase):
    """At the ends of the bounds: 8 writes, 3 looks, 20 parts, a slack of 50."""

    def test_claims_of_20_parts_on_full_plans(self):
        chance = random.Random(6)
        for plan in full_plans():
            reader = (None, ((0, 0, 200), (plan[0] - 1, 0, 200), (0, 0, 200)))
            for _ in range(5):
                claim = some_claim(chance, 3, 20)
                timetable = breaks(plan, reader, claim)
                self.assertIs(holds(plan, reader, claim), timetable is None)
                self.assertIs(slack(plan, reader, claim, 50) is None, timetable is not None)
                if timetable is not None:
                    self.assertIs(is_so(read(plan, reader, timetable), claim), False)

    def test_looks_of_one_tick_see_alike(self):
        for plan in full_plans():
            reader = (0, ((0, 0, 200), (0, 0, 0), (0, 0, 0)))
            claim = ("and", ("alike", 0, 1), ("and", ("alike", 1, 2), ("alike", 2, 0)))
            self.assertIs(holds(plan, reader, claim), True)
            self.assertEqual(slack(plan, reader, claim, 50), 50)
            late = (0, ((0, 0, 200), (0, 0, 0), (0, 0, 1)))
            self.assertIs(holds(plan, late, claim), False)
            self.assertIsNone(slack(plan, late, claim, 50))

    def test_slack_beyond_50(self):
        two = (1, (50,), ((0, "a", 0, 50, 50), (0, "b", 0, 50, 50)))
        bare = ("sees", 0, ".")
        for tick, told in ((150, 0), (151, 0), (152, 1), (160, 5), (199, 24), (200, 25)):
            # b is done at 100 and 2 times the slack at the latest, and there until 49 ticks later.
            reader = (None, ((0, tick, tick),))
            self.assertEqual(slack(two, reader, bare, 50), told, tick)
        reader = (None, ((0, 200, 200), (0, 50, 50)))
        self.assertEqual(slack(two, reader, ("sees", 1, "."), 50), 50)
        reader = (None, ((0, 200, 200), (0, 49, 49)))
        self.assertEqual(slack(two, reader, ("sees", 1, "."), 50), 49)
        self.assertEqual(slack(two, reader, ("sees", 1, "."), 49), 49)
        self.assertEqual(slack(two, reader, ("sees", 1, "."), 48), 48)
        self.assertIsNone(slack(two, (None, ((0, 149, 149),)), bare, 50))

    def test_without_a_write(self):
        plan, reader = (4, (1,), ()), (None, ((0, 0, 200), (3, 0, 200), (1, 200, 200)))
        claim = ("and", ("sees", 0, "."), ("and", ("sees", 1, "."), ("sees", 2, ".")))
        self.assertIs(holds(plan, reader, claim), True)
        self.assertEqual(slack(plan, reader, claim, 50), 50)
        pace, rests = breaks(plan, reader, ("not", claim))
        self.assertEqual((pace, len(rests), rests[2]), ((), 3, 200))
