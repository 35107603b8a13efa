"""[1], [2] and [3]: plans, paces and boards."""

import random
import unittest

from fadinginks.errors import BadPace, BadPlan, BadTick, NoCell
from fadinginks.plans import board, is_plan, seen, story, ticks
from tests.helpers import WRONG, all_paces, broken, case_at, check_order, run_example, some_plan, text_of, write_ticks

EXAMPLE = """
>>> from fadinginks.plans import board, is_plan, seen, story, ticks
>>> plan = (1, (5, 2), ((0, "a", 0, 0, 2), (0, "b", 1, 1, 2)))
>>> [is_plan(plan), ticks(plan, (2, 1)), seen(plan, (2, 1), 0, 3), board(plan, (2, 1), 6), story(plan, (1, 2), 0, 7)]
[True, (2, 3), 'b', 'a', '.aabba..']
"""
PLAN = (1, (5, 2), ((0, "a", 0, 0, 2), (0, "b", 1, 1, 2)))
PACE = (2, 1)
WRITE = (0, "a", 0, 0, 2)


def plan_with(cells=1, stays=(5, 2), cell=0, sign="a", ink=0, low=0, high=2):
    """Return a triple of one write that is a plan if all its parts are right."""
    return (cells, stays, ((cell, sign, ink, low, high),))


class IsPlanTest(unittest.TestCase):
    def is_so(self, value, told):
        self.assertIs(is_plan(value), told, value)
        if not told:
            for function, more in ((ticks, [()]), (board, [(), 0]), (seen, [(), 0, 0]), (story, [(), 0, 0])):
                with self.assertRaises(BadPlan, msg=value):
                    function(value, *more)

    def test_plans(self):
        for value in (PLAN, plan_with(), (1, (1,), ()), (4, (50, 50, 1, 1), ((3, "z", 3, 50, 50),) * 8)):
            self.is_so(value, True)

    def test_cells(self):
        for cells, told in ((1, True), (4, True), (0, False), (5, False)):
            self.is_so(plan_with(cells=cells), told)
            self.is_so((cells, (5, 2), ()), told)

    def test_parts_left_out(self):
        for many in range(5):
            self.is_so((1, (5,), (WRITE, WRITE[:many])), False)
        for many in range(3):
            self.is_so(PLAN[:many], False)

    def test_inks(self):
        for stays, told in (((1,), True), ((50,) * 4, True), ((), False), ((1,) * 5, False)):
            self.is_so((1, stays, ()), told)
            self.is_so(plan_with(stays=stays), told)
        for stay, told in ((1, True), (50, True), (0, False), (51, False)):
            self.is_so(plan_with(stays=(stay, 2)), told)
            self.is_so(plan_with(stays=(2, stay)), told)

    def test_how_many_writes(self):
        for many in range(9):
            self.is_so((1, (5,), (WRITE,) * many), True)
        self.is_so((1, (5,), (WRITE,) * 9), False)

    def test_cell_and_ink_of_a_write(self):
        for last in range(4):
            for at in range(-1, 6):
                self.is_so(plan_with(cells=last + 1, cell=at), 0 <= at <= last)
                self.is_so(plan_with(stays=(5,) * (last + 1), ink=at), 0 <= at <= last)

    def test_signs(self):
        for sign in "abcdefghijklmnopqrstuvwxyz":
            self.is_so(plan_with(sign=sign), True)
        for sign in ("`", "{", "A", "Z", ".", "", "aa", "1", " ", "\u00e4", "\u0430", "a\n", 97, ("a",), ["a"]):
            self.is_so(plan_with(sign=sign), False)

    def test_bounds_of_rests(self):
        right = [(0, 0), (0, 50), (50, 50), (3, 3), (3, 4)]
        for low, high in right + [(-1, 0), (0, 51), (51, 51), (50, 51), (1, 0), (50, 49), (0, -1), (-2, -1)]:
            self.is_so(plan_with(low=low, high=high), (low, high) in right)

    def test_wrong_anywhere(self):
        many = 0
        for _, _, value in broken(PLAN):
            self.is_so(value, False)
            many += 1
        self.assertGreater(many, 500)

    def test_wrong_in_the_last_write_only(self):
        for wrong in WRONG:
            self.is_so((1, (5,), (WRITE,) * 7 + (wrong,)), False)


class WrongTest(unittest.TestCase):
    def test_order_of_errors(self):
        plans, paces = (WRONG + [PLAN[:2]], BadPlan), (WRONG + [(), (2,), (2, 1, 1), (3, 1), (2, 0)], BadPace)
        cells, moments, lasts = (WRONG + [1], NoCell), (WRONG + [1001, 0.5], BadTick), (WRONG + [201], BadTick)
        check_order(self, ticks, [PLAN, PACE], [plans, paces])
        check_order(self, seen, [PLAN, PACE, 0, 0], [plans, paces, cells, moments])
        check_order(self, board, [PLAN, PACE, 0], [plans, paces, moments])
        check_order(self, story, [PLAN, PACE, 0, 0], [plans, paces, cells, lasts])

    def test_paces(self):
        for pace in ((0, 1), (2, 2), (0, 2), (2, 1)):
            self.assertEqual(ticks(PLAN, pace), (pace[0], sum(pace)))
        for pace in ((0, 0), (3, 1), (2, 3), (-1, 1), (True, 1), (0, True), (0,), (0, 1, 0), [0, 1], ((0, 1),)):
            with self.assertRaises(BadPace, msg=pace):
                ticks(PLAN, pace)
        for _, _, pace in broken(PACE):
            with self.assertRaises(BadPace, msg=pace):
                ticks(PLAN, pace)

    def test_pace_of_no_write(self):
        empty = (1, (1,), ())
        self.assertEqual(ticks(empty, ()), ())
        for pace in ((0,), None, [], {}, "", 0):
            with self.assertRaises(BadPace, msg=pace):
                ticks(empty, pace)

    def test_cells(self):
        wide = (4,) + PLAN[1:]
        for cell in range(4):
            self.assertEqual(seen(wide, PACE, cell, 3), "b..."[cell])
            self.assertEqual(story(wide, PACE, cell, 3), "..ab" if cell == 0 else "....")
        for function in (seen, story):
            for cell in (-1, 4, 5, True, "0"):
                with self.assertRaises(NoCell):
                    function(wide, PACE, cell, 0)
            with self.assertRaises(NoCell):
                function(PLAN, PACE, 1, 0)

    def test_bounds_of_ticks(self):
        self.assertEqual(seen(PLAN, PACE, 0, 1000) + board(PLAN, PACE, 1000), "..")
        self.assertEqual(seen(PLAN, (0, 1), 0, 0) + board(PLAN, (0, 1), 0) + story(PLAN, (0, 1), 0, 0), "aaa")
        self.assertEqual(len(story(PLAN, PACE, 0, 200)), 201)
        for tick in (-1, 1001, True):
            with self.assertRaises(BadTick):
                seen(PLAN, PACE, 0, tick)
            with self.assertRaises(BadTick):
                board(PLAN, PACE, tick)
        for last in (-1, 201, 1000, False):
            with self.assertRaises(BadTick):
                story(PLAN, PACE, 0, last)


class SeenTest(unittest.TestCase):
    def test_example(self):
        run_example(self, EXAMPLE, 3)

    def test_there_from_its_tick_and_less_than_its_stay(self):
        plan = (1, (3,), ((0, "c", 0, 2, 4),))
        self.assertEqual(story(plan, (2,), 0, 8), "..ccc....")
        self.assertEqual(story(plan, (4,), 0, 8), "....ccc..")
        self.assertEqual([seen(plan, (4,), 0, tick) for tick in (3, 4, 6, 7)], [".", "c", "c", "."])

    def test_newest_on_top_and_elder_again(self):
        plan = (1, (9, 2, 4), ((0, "a", 0, 0, 0), (0, "b", 1, 1, 1), (0, "c", 2, 0, 1)))
        self.assertEqual(story(plan, (0, 1, 1), 0, 10), "abccccaaa..")
        self.assertEqual(story(plan, (0, 1, 0), 0, 10), "accccaaaa..")

    def test_the_last_of_the_same_tick(self):
        plan = (1, (1, 3), ((0, "b", 1, 2, 2), (0, "a", 0, 0, 0)))
        self.assertEqual(story(plan, (2, 0), 0, 5), "..abb.")
        self.assertEqual(story((1, (1, 3), plan[2][:1] * 2), (2, 2), 0, 8), "..bbbbb..")

    def test_same_sign_in_two_inks(self):
        plan = (1, (4, 1), ((0, "a", 0, 0, 0), (0, "a", 1, 1, 1), (0, "b", 1, 1, 1)))
        self.assertEqual(story(plan, (0, 1, 1), 0, 5), "aaba..")

    def test_cells_apart(self):
        plan = (3, (4,), ((2, "a", 0, 1, 1), (0, "b", 0, 1, 1), (2, "c", 0, 1, 1)))
        boards = [board(plan, (1, 1, 1), tick) for tick in range(8)]
        self.assertEqual(boards, ["...", "..a", "b.a", "b.c", "b.c", "b.c", "..c", "..."])

    def test_at_the_ends_of_the_bounds(self):
        plan = (4, (50, 1, 50, 1), tuple((at % 4, "abcdefgh"[at], at % 4, 50, 50) for at in range(8)))
        pace = (50,) * 8
        self.assertEqual(ticks(plan, pace), (50, 100, 150, 200, 250, 300, 350, 400))
        self.assertEqual([board(plan, pace, tick) for tick in (350, 399, 400, 401)], ["..g.", "..g.", "...h", "...."])
        self.assertEqual(story(plan, pace, 0, 200), "." * 50 + "a" * 50 + "." * 101)
        self.assertEqual(story(plan, pace, 3, 200), "." * 200 + "d")

    def test_against_the_words(self):
        chance = random.Random(3)
        for turn in range(60):
            plan = some_plan(chance, turn % 5)
            for pace in all_paces(plan)[:9]:
                self.assertEqual(ticks(plan, pace), tuple(write_ticks(pace)))
                stories = []
                for cell in range(plan[0]):
                    told = "".join(text_of(plan, [case_at(plan, pace, cell, tick)]) for tick in range(31))
                    self.assertEqual(story(plan, pace, cell, 30), told)
                    self.assertEqual("".join(seen(plan, pace, cell, tick) for tick in range(31)), told)
                    stories.append(told)
                self.assertEqual([board(plan, pace, tick) for tick in range(31)], list(map("".join, zip(*stories))))

    def test_equal_calls_have_equal_answers(self):
        again = (1, (5, 2), ((0, "a", 0, 0, 2), (0, "b", 1, 1, 2)))
        for function, more in ((ticks, ()), (board, (3,)), (seen, (0, 3)), (story, (0, 9))):
            self.assertEqual(function(PLAN, PACE, *more), function(again, (2, 1), *more))
