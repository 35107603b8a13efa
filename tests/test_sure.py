"""[1], [10] and [11]: what can be seen and what is sure, and rounds for ever."""

import copy
import itertools
import random
import unittest

from fadinginks.errors import BadNumber, BadPlan, BadReader, BadTick, NoCell, NoRounds, NoSign, NoStart, TooMany
from fadinginks.plans import seen
from fadinginks.readers import readings, timetable_for
from fadinginks.sure import can_see, round_readings, settled, sure
from tests.helpers import (
    WRONG, all_paces, all_timetables, broken, case_at, check_order, check_wrongs, choice_at, full_plans, run_example,
    some_plan, some_reader, text_of,
)

EXAMPLE = """
>>> from fadinginks.sure import can_see, round_readings, settled, sure
>>> plan = (1, (5, 2), ((0, "a", 0, 0, 2), (0, "b", 1, 1, 2)))
>>> [can_see(plan, 0, 0), can_see(plan, 0, 3), sure(plan, 0, ".", 9), settled(plan)]
['.a', 'ab', ((7, 9),), 6]
>>> once = (1, (3,), ((0, "c", 0, 2, 4),))
>>> [settled(once), sure(once, 0, "c", 9), round_readings(once, (0, ((0, 3, 3),)), 1), \
round_readings(once, (0, ((0, 2, 2),)), 10 ** 20)]
[3, ((4, 4),), ('.', 'c'), ('c',)]
"""
PLAN = (1, (5, 2), ((0, "a", 0, 0, 2), (0, "b", 1, 1, 2)))
READER = (0, ((0, 1, 2), (0, 2, 2)))
# Lows that add up to 0: no rounds.
STILL = (1, (5, 2), ((0, "a", 0, 0, 2), (0, "b", 1, 0, 2)))
NO_ROUNDS = [wrong for wrong in WRONG if wrong != 2 ** 63] + [0, 10 ** 30 + 1]


def signs_by_tick(plan, cell, last):
    """Return for each tick from 0 to last the signs seen at the cell at some pace."""
    return [
        {text_of(plan, [case_at(plan, pace, cell, tick)]) for pace in all_paces(plan)} for tick in range(last + 1)
    ]


def round_texts(plan, reader, number, behind):
    """Return the readings of the rounds done one by one, so many of them behind the one of the start."""
    cells, stays, writes = plan
    unrolled = (cells, stays, writes * (number + behind))
    late = (len(writes) * (number - 1) + reader[0], reader[1])
    tables = all_timetables(unrolled, late)
    return tuple(sorted({text_of(unrolled, choice_at(unrolled, late, made)) for made in tables}))


class ValuesTest(unittest.TestCase):
    def test_order_of_errors(self):
        plans, cells = (WRONG + [PLAN[:2]], BadPlan), (WRONG + [1, 4], NoCell)
        check_order(self, can_see, [PLAN, 0, 0], [plans, cells, (WRONG + [1001], BadTick)])
        signs = (WRONG + ["..", "`", "{", ","], NoSign)
        check_order(self, sure, [PLAN, 0, "a", 9], [plans, cells, signs, (WRONG + [201], BadTick)])
        check_order(self, settled, [PLAN], [plans])
        readers = (WRONG + [(0, ()), (2, READER[1])], BadReader)
        numbers = (NO_ROUNDS, BadNumber)
        check_order(self, round_readings, [PLAN, READER, 1], [plans, readers, numbers])
        starts = ([(None, READER[1])], NoStart)
        check_order(self, round_readings, [PLAN, READER, 1], [plans, starts, numbers])
        stills = ([STILL, (1, (1,), ()), (4, (50,) * 4, ())], NoRounds)
        check_order(self, round_readings, [PLAN, READER, 1], [stills, readers, numbers])
        check_order(self, round_readings, [PLAN, READER, 1], [stills, starts, numbers])
        check_order(self, settled, [PLAN], [stills])

    def test_too_many_is_the_last_error(self):
        full = (1, (5, 2), ((0, "a", 0, 1, 2),) * 6)
        with self.assertRaises(TooMany):
            round_readings(full, READER, 10)
        check_wrongs(self, round_readings, [full, READER, 10], 2, NO_ROUNDS, BadNumber)
        check_wrongs(self, round_readings, [full, READER, 10], 1, [(None, READER[1])], NoStart)
        check_wrongs(self, round_readings, [full, READER, 10], 1, WRONG + [(6, READER[1])], BadReader)

    def test_plans_wrong_anywhere(self):
        for _, _, plan in broken(PLAN):
            rows = ((can_see, [0, 0]), (sure, [0, "a", 9]), (settled, []), (round_readings, [READER, 1]))
            for function, more in rows:
                check_wrongs(self, function, [plan] + more, 0, [plan], BadPlan)

    def test_readers_wrong_anywhere(self):
        for path, wrong, reader in broken(READER):
            error = NoStart if path == (0,) and wrong is None else BadReader
            check_wrongs(self, round_readings, [PLAN, reader, 1], 1, [reader], error)

    def test_cells(self):
        for cells, cell in itertools.product((1, 2, 3, 4), range(-1, 6)):
            plan = (cells,) + PLAN[1:]
            for function, more in ((can_see, [0]), (sure, [".", 9])):
                if 0 <= cell < cells:
                    function(plan, cell, *more)
                else:
                    check_wrongs(self, function, [plan, cell] + more, 1, [cell], NoCell)

    def test_ticks(self):
        for tick in (0, 1, 200, 201, 1000):
            can_see(PLAN, 0, tick)
        check_wrongs(self, can_see, [PLAN, 0, 0], 2, WRONG + [-1, 1001, True, False], BadTick)
        for last in (0, 1, 199, 200):
            sure(PLAN, 0, ".", last)
        check_wrongs(self, sure, [PLAN, 0, ".", 0], 3, WRONG + [-1, 201, 1000, True, False], BadTick)

    def test_signs(self):
        for sign in ".abz":
            sure(PLAN, 0, sign, 9)
        wrongs = WRONG + ["", "..", "A", "`", "{", "aa", "\u00e4", 0, ("a",), [], b"a"]
        check_wrongs(self, sure, [PLAN, 0, "a", 9], 2, wrongs, NoSign)

    def test_numbers(self):
        for number in (1, 2, 2 ** 63, 10 ** 30):
            self.assertIsInstance(round_readings(PLAN, (1, ((0, 0, 0),)), number), tuple)
        wrongs = NO_ROUNDS + [-1, True, False, "1", (1,)]
        check_wrongs(self, round_readings, [PLAN, (1, ((0, 0, 0),)), 1], 2, wrongs, BadNumber)

    def test_lows(self):
        for lows, told in (((0, 0), False), ((1, 0), True), ((0, 1), True), ((50, 50), True)):
            plan = (1, (1,), tuple((0, "a", 0, low, 50) for low in lows))
            if told:
                self.assertIsInstance(settled(plan), int)
                self.assertIsInstance(round_readings(plan, (0, ((0, 0, 0),)), 1), tuple)
            else:
                check_wrongs(self, settled, [plan], 0, [plan], NoRounds)
                check_wrongs(self, round_readings, [plan, (0, ((0, 0, 0),)), 1], 0, [plan], NoRounds)

    def test_nothing_is_changed(self):
        plan, reader = copy.deepcopy(PLAN), copy.deepcopy(READER)
        for _ in range(2):
            self.assertEqual(can_see(plan, 0, 3), "ab")
            self.assertEqual(sure(plan, 0, ".", 9), ((7, 9),))
            self.assertEqual(settled(plan), 6)
            self.assertEqual(round_readings(plan, reader, 1), round_readings(PLAN, READER, 1))
        self.assertEqual((plan, reader), (PLAN, READER))


class SmallTest(unittest.TestCase):
    def test_example(self):
        run_example(self, EXAMPLE, 5)

    def test_can_see_and_sure_at_all_paces(self):
        chance = random.Random(11)
        many = 0
        for turn in range(120):
            plan = some_plan(chance, turn % 5, wide=2 if turn % 5 < 4 else 1)
            for cell in range(plan[0]):
                by_tick = signs_by_tick(plan, cell, 30)
                for tick, signs in enumerate(by_tick):
                    self.assertEqual(can_see(plan, cell, tick), "".join(sorted(signs)), (plan, cell, tick))
                for sign, last in itertools.product(".abcz", (0, 1, 4, 11, 30)):
                    found = sure(plan, cell, sign, last)
                    inside = [tick for first, end in found for tick in range(first, end + 1)]
                    told = [tick for tick in range(last + 1) if by_tick[tick] == {sign}]
                    self.assertEqual(inside, told, (plan, cell, sign, last))
                    # Longest stretches never touch one another.
                    self.assertTrue(all(end + 1 < first for (_, end), (first, _) in zip(found, found[1:])))
                    self.assertTrue(all(first <= end for first, end in found))
                    many += len(found) > 1
        self.assertGreater(many, 50)

    def test_stretches(self):
        plan = (1, (2, 3), ((0, "a", 0, 2, 2), (0, "b", 1, 4, 4), (0, "a", 0, 3, 3)))
        self.assertEqual(sure(plan, 0, "a", 20), ((2, 3), (9, 10)))
        self.assertEqual(sure(plan, 0, "b", 20), ((6, 8),))
        self.assertEqual(sure(plan, 0, ".", 20), ((0, 1), (4, 5), (11, 20)))
        self.assertEqual(sure(plan, 0, ".", 0), ((0, 0),))
        self.assertEqual(sure(plan, 0, "a", 9), ((2, 3), (9, 9)))
        self.assertEqual(sure(plan, 0, "z", 20), ())
        self.assertEqual(sure(plan, 0, "a", 1), ())

    def test_another_write_of_the_sign_is_as_sure(self):
        # Whichever of the two is seen, it is an a.
        plan = (1, (3,), ((0, "a", 0, 0, 0), (0, "a", 0, 1, 3)))
        self.assertEqual(sure(plan, 0, "a", 9), ((0, 3),))
        self.assertEqual(can_see(plan, 0, 4), ".a")

    def test_without_a_write(self):
        plan = (2, (9,), ())
        self.assertEqual([can_see(plan, 1, tick) for tick in (0, 1000)], [".", "."])
        self.assertEqual(sure(plan, 0, ".", 200), ((0, 200),))
        self.assertEqual(sure(plan, 0, "a", 200), ())


class RoundsTest(unittest.TestCase):
    def test_settled(self):
        for stays, lows, told in (
            ((1,), (1,), 2), ((50,), (1,), 51), ((50,), (50,), 2), ((50,), (49,), 3), ((50,), (25, 25), 2),
            ((50,), (25, 24), 3), ((6,), (2, 1), 3), ((7,), (2, 1), 4), ((1, 7, 2), (3, 0), 4), ((1,), (50,) * 8, 2),
        ):
            plan = (1, stays, tuple((0, "a", 0, low, 50) for low in lows))
            self.assertEqual(settled(plan), told, (stays, lows))

    def test_rounds_done_one_by_one(self):
        chance = random.Random(12)
        found = {}
        for turn in range(140):
            plan = some_plan(chance, 1 + turn % 2, most=3, wide=1)
            lows = sum(write[3] for write in plan[2])
            reader = some_reader(chance, plan, 1 + turn % 3, most=3, wide=1)
            if lows == 0 or reader[0] is None:
                continue
            behind = 1 + sum(look[2] for look in reader[1]) // lows
            for number in range(1, settled(plan) + 3):
                told = (min(number, settled(plan)) + behind) * len(plan[2]) > 16
                kind = (told, number > settled(plan))
                found[kind] = found.get(kind, 0) + 1
                if told:
                    with self.assertRaises(TooMany) as caught:
                        round_readings(plan, reader, number)
                    self.assertEqual(caught.exception.most, 16)
                elif (number + behind) * sum(write[4] > write[3] for write in plan[2]) <= 10:
                    texts = round_texts(plan, reader, number, behind)
                    self.assertEqual(round_readings(plan, reader, number), texts, (plan, reader, number))
                    found["tried"] = found.get("tried", 0) + 1
        self.assertTrue(all(found[told, late] > 10 for told in (True, False) for late in (True, False)), found)
        self.assertGreater(found["tried"], 100)

    def test_the_round_is_told_by_what_is_there_from_rounds_ahead(self):
        # The a of the round ahead is there until the next b; in the first round there is none.
        plan = (1, (9, 1), ((0, "b", 1, 2, 2), (0, "a", 0, 2, 2)))
        reader = (0, ((0, 0, 0), (0, 1, 1), (0, 1, 1)))
        self.assertEqual(settled(plan), 4)
        self.assertEqual(round_readings(plan, reader, 1), ("b.a",))
        for number in (2, 3, 4, 5, 10 ** 30):
            self.assertEqual(round_readings(plan, reader, number), ("baa",))

    def test_the_first_round_counts_from_the_tick_0(self):
        plan = (1, (2,), ((0, "a", 0, 2, 3),))
        self.assertEqual(round_readings(plan, (0, ((0, 2, 2),)), 1), (".", "a"))
        # In the round 2 the a of the round ahead was done at the tick 2 or 3.
        self.assertEqual(round_readings(plan, (0, ((0, 2, 2), (0, 1, 1))), 2), (".a", "aa"))

    def test_rounds_behind(self):
        plan = (1, (1,), ((0, "a", 0, 1, 1),))
        for many in range(1, 9):
            # All rounds that come by then are done.
            self.assertEqual(round_readings(plan, (0, ((0, many, many),)), 1), ("a",))
        two = (1, (1,), ((0, "a", 0, 3, 3), (0, "b", 0, 0, 0)))
        self.assertEqual(round_readings(two, (0, ((0, 3, 3), (0, 3, 3), (0, 3, 3))), 1), ("bbb",))
        self.assertEqual(round_readings(two, (1, ((0, 0, 3), (0, 3, 3), (0, 3, 3))), 1), ("...", "bbb"))

    def test_from_settled_on_all_rounds_are_like_it(self):
        plan = (1, (4, 1), ((0, "a", 0, 1, 2), (0, "b", 1, 1, 1)))
        reader = (0, ((0, 0, 1), (0, 1, 1)))
        self.assertEqual(settled(plan), 3)
        late = round_readings(plan, reader, 3)
        for number in (4, 5, 100, 10 ** 20, 10 ** 30):
            self.assertEqual(round_readings(plan, reader, number), late)
        self.assertEqual(late, round_texts(plan, reader, 6, 2))

    def check_many(self, plan, reader, number, told):
        """Check whether there are too many writes, told telling it."""
        if told:
            with self.assertRaises(TooMany) as caught:
                round_readings(plan, reader, number)
            self.assertIs(type(caught.exception), TooMany)
            self.assertEqual(caught.exception.most, 16)
        else:
            self.assertIsInstance(round_readings(plan, reader, number), tuple)

    def test_16_writes_and_one_more(self):
        for writes in range(1, 9):
            plan = (1, (50,), ((0, "a", 0, 1, 50),) + ((0, "b", 0, 0, 50),) * (writes - 1))
            self.assertEqual(settled(plan), 51)
            for number in list(range(1, 18)) + [50, 51, 52, 10 ** 30]:
                for high in range(18):
                    many = (min(number, 51) + 1 + high) * writes
                    if many > 16 or many + writes > 16 or high in (0, 1):
                        self.check_many(plan, (0, ((0, 0, high),)), number, many > 16)

    def test_highs_are_added_ahead_of_the_division(self):
        plan = (1, (1,), ((0, "a", 0, 5, 5), (0, "b", 0, 0, 0)))
        rows = (((14, 15, 0), False), ((14, 15, 1), True), ((29,), False), ((30,), True), ((4, 4, 4), False))
        for highs, told in rows:
            looks = tuple((0, 0, high) for high in highs)
            self.check_many(plan, (1, looks), 2, told)
            self.check_many(plan, (1, looks), 10 ** 30, told)
        # One more at the round 1.
        self.check_many(plan, (1, ((0, 0, 34),)), 1, False)
        self.check_many(plan, (1, ((0, 0, 35),)), 1, True)

    def test_eight_writes_have_two_rounds_at_most(self):
        plan = (4, (50, 1, 7, 30), tuple((at % 4, "abcdefgh"[at], at % 4, 0 if at else 50, 50) for at in range(8)))
        self.check_many(plan, (0, ((0, 0, 49), (1, 0, 0), (3, 0, 0))), 1, False)
        self.check_many(plan, (0, ((0, 0, 49), (1, 0, 0), (3, 0, 1))), 1, True)
        self.check_many(plan, (7, ((0, 0, 0),)), 2, True)


class EndsTest(unittest.TestCase):
    """At the ends of the bounds."""

    def test_full_plans(self):
        for plan in full_plans():
            self.assertEqual(can_see(plan, 0, 1000), ".")
            self.assertEqual(can_see(plan, plan[0] - 1, 400)[-1], "h")
            for cell, tick in itertools.product(range(plan[0]), (0, 49, 50, 51, 150, 200)):
                self.assertEqual(can_see(plan, cell, tick), "".join(readings(plan, (None, ((cell, tick, tick),)))))
            self.assertEqual(sure(plan, 0, "a", 200), ())
            self.assertEqual(sure(plan, plan[0] - 1, ".", 200), ())

    def test_one_pace_at_the_highest_bounds(self):
        plan = (4, (50, 1, 50, 2), tuple((at % 4, "abcdefgh"[at], at % 4, 50, 50) for at in range(8)))
        for cell in range(4):
            for tick in (0, 49, 50, 99, 100, 101, 149, 150, 199, 200, 201, 299, 300, 399, 400, 401, 402, 1000):
                self.assertEqual(can_see(plan, cell, tick), seen(plan, (50,) * 8, cell, tick))
        self.assertEqual(sure(plan, 0, "a", 200), ((50, 99),))
        self.assertEqual(sure(plan, 1, "b", 200), ((100, 100),))
        self.assertEqual(sure(plan, 3, "d", 200), ((200, 200),))
        self.assertEqual(sure(plan, 3, "d", 199), ())
        self.assertEqual(sure(plan, 1, ".", 200), ((0, 99), (101, 200)))

    def check_rounds(self, chance, plan, reader, number, rounds):
        """Check the readings of so many rounds: each comes at some timetable, and of many timetables no others come."""
        texts = round_readings(plan, reader, number)
        self.assertEqual(texts, tuple(sorted(set(texts))))
        cells, stays, writes = plan
        unrolled = (cells, stays, writes * rounds)
        self.assertEqual(len(unrolled[2]), 16)
        late = (len(writes) * (number - 1) + reader[0], reader[1])
        for text in texts[::1 + len(texts) // 20]:
            self.assertEqual(text_of(unrolled, choice_at(unrolled, late, timetable_for(unrolled, late, text))), text)
        for _ in range(100):
            pace = [chance.choice([low, low, min(low + 1, high), high]) for *_, low, high in unrolled[2]]
            rests = [chance.randint(low, high) for _, low, high in reader[1]]
            self.assertIn(text_of(unrolled, choice_at(unrolled, late, (pace, rests))), texts)

    def test_16_writes(self):
        chance = random.Random(13)
        for cells, many, number in itertools.product((1, 4), (1, 2, 4, 8), (1, 2)):
            rounds = 16 // many
            if number < rounds:
                for low, stays in itertools.product((1, 3, 50), ((50, 30, 10, 1), (50, 1, 7, 30))):
                    writes = [(at % cells, "abcdefgh"[at], at % 4, 0 if at else low, 50) for at in range(many)]
                    ticks = min(600, (rounds - number) * low - 1)
                    highs = (ticks - 2 * (ticks // 3), ticks // 3, ticks // 3)
                    reader = (many // 2, tuple((at % cells, 0, high) for at, high in enumerate(highs)))
                    self.check_rounds(chance, (cells, stays, tuple(writes)), reader, number, rounds)
