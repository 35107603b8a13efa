"""[1] and [4] to [7]: values of readers, and their examples."""

import unittest

from fadinginks.errors import BadChoice, BadNumber, BadPlan, BadReader, BadReading, BadTimetable
from fadinginks.readers import can_read, cases, differences, read, readings, ring
from tests.helpers import WRONG, broken, check_order, run_example

EXAMPLE = """
>>> from fadinginks.readers import can_read, cases, differences, read, readings, ring
>>> plan = (1, (5, 2), ((0, "a", 0, 0, 2), (0, "b", 1, 1, 2)))
>>> reader = (0, ((0, 1, 2), (0, 2, 2)))
>>> [read(plan, reader, ((0, 1), (1, 2))), readings(plan, reader), can_read(plan, reader, "bb"), cases(plan, reader, 0)]
['ba', ('ab', 'ba'), None, ((0, None), (1, None), (1, 0), (2, None), (2, 0), (2, 1))]
>>> [differences(plan, (None, ((0, 3, 3),)), ((1, 0),)), ring(plan, (None, ((0, 3, 3),)), ((1, 0),))]
[((0, 1, 0), (0, 3, -3), (1, 0, 2), (1, 2, -1), (1, 3, 0), (2, 1, 2), (3, 0, 3), (3, 1, 4), (3, 2, -1)), None]
>>> read(plan, reader, can_read(plan, reader, "ab"))
'ab'
"""
PLAN = (1, (5, 2), ((0, "a", 0, 0, 2), (0, "b", 1, 1, 2)))
READER = (0, ((0, 1, 2), (0, 2, 2)))
TIMETABLE = ((0, 1), (1, 2))
CHOICE = ((1, 0), (2, 0))
# Two cells, so that a write may be done and yet not be at the look's cell.
WIDE = (2, (5, 2), ((0, "a", 0, 0, 2), (1, "b", 1, 1, 2), (0, "c", 1, 0, 0)))


class ValuesTest(unittest.TestCase):
    def check_reader(self, plan, reader, told):
        if told:
            self.assertIsInstance(readings(plan, reader), tuple)
            return
        for function in (read, readings, can_read, cases, differences, ring):
            more = [] if function is readings else [None]
            with self.assertRaises(BadReader, msg=(function.__name__, reader)):
                function(plan, reader, *more)

    def test_order_of_errors(self):
        plans, makers = (WRONG + [PLAN[:2]], BadPlan), (WRONG + [(0, ()), (2, READER[1])], BadReader)
        check_order(self, readings, [PLAN, READER], [plans, makers])
        tables = (WRONG + [(), ((0, 1),), ((0, 1), (0, 2)), ((3, 1), (1, 2))], BadTimetable)
        check_order(self, read, [PLAN, READER, TIMETABLE], [plans, makers, tables])
        texts = (WRONG + ["a", ".", "a{", "`a", "..."], BadReading)
        check_order(self, can_read, [PLAN, READER, "ab"], [plans, makers, texts])
        check_order(self, cases, [PLAN, READER, 0], [plans, makers, (WRONG + [2], BadNumber)])
        choices = (WRONG + [(), CHOICE[:1], CHOICE + CHOICE[:1], ((1, 1), (2, 0))], BadChoice)
        for function in (differences, ring):
            check_order(self, function, [PLAN, READER, CHOICE], [plans, makers, choices])

    def test_starts(self):
        for start, told in ((None, True), (0, True), (1, True), (2, False), (-1, False), (True, False), ("0", False)):
            self.check_reader(PLAN, (start, READER[1]), told)
        empty = (1, (1,), ())
        for start, told in ((None, True), (0, False), (-1, False)):
            self.check_reader(empty, (start, READER[1]), told)
        full = (1, (1,), PLAN[2][:1] * 8)
        for start, told in ((7, True), (8, False)):
            self.check_reader(full, (start, READER[1]), told)

    def test_how_many_looks(self):
        for many, told in ((0, False), (1, True), (2, True), (3, True), (4, False)):
            self.check_reader(PLAN, (0, ((0, 0, 1),) * many), told)

    def test_parts_left_out(self):
        for many in range(3):
            self.check_reader(PLAN, (0, ((0, 0, 1), (0, 0, 1)[:many])), False)
        for many in range(2):
            self.check_reader(PLAN, READER[:many], False)
            with self.assertRaises(BadTimetable):
                read(PLAN, READER, TIMETABLE[:many])
            with self.assertRaises(BadChoice):
                differences(PLAN, READER, (CHOICE[0], CHOICE[1][:many]))

    def test_bounds_of_looks(self):
        right = [(0, 0), (0, 200), (200, 200), (51, 51)]
        for low, high in right + [(-1, 0), (0, 201), (201, 201), (1, 0), (200, 199), (0, -1)]:
            self.check_reader(PLAN, (0, ((0, low, high),)), (low, high) in right)
            self.check_reader(PLAN, (None, ((0, 0, 0), (0, low, high))), (low, high) in right)

    def test_cells_of_looks(self):
        for cells in (1, 2, 3, 4):
            for cell in range(-1, 6):
                self.check_reader((cells,) + PLAN[1:], (0, ((cell, 0, 1),)), 0 <= cell < cells)

    def test_readers_wrong_anywhere(self):
        for path, wrong, reader in broken(READER):
            if path != (0,) or wrong is not None:
                self.check_reader(PLAN, reader, False)

    def test_timetables_wrong_anywhere(self):
        wrongs = [made for _, _, made in broken(TIMETABLE)]
        wrongs += [((0, 1), (0, 2)), ((0, 1), (3, 2)), ((0, 1), (1, 3)), ((0, 1), (1, 1)), ((0, 0), (1, 2))]
        wrongs += [((3, 1), (1, 2)), ((0, 3), (1, 2)), ((0, 1), (1,)), ((0,), (1, 2)), ((0, 1), (True, 2))]
        for timetable in wrongs:
            with self.assertRaises(BadTimetable, msg=timetable):
                read(PLAN, READER, timetable)

    def test_readings_to_be_asked_for(self):
        for text in ("..", "az", "z.", "ab"):
            can_read(PLAN, READER, text)
        wrongs = ["", ".", "abc", "A.", "a`", "{a", "a ", "1.", "a\u00e4", "\u0430a", ("a", "b"), ["a", "b"], 0, None]
        for text in wrongs + WRONG:
            with self.assertRaises(BadReading, msg=text):
                can_read(PLAN, READER, text)
        for many in (1, 2, 3):
            reader = (None, ((0, 0, 1),) * many)
            self.assertIsNone(can_read(PLAN, reader, "z" * many))
            for wrong in ("z" * (many - 1), "z" * (many + 1)):
                with self.assertRaises(BadReading):
                    can_read(PLAN, reader, wrong)

    def test_numbers_of_looks(self):
        for many in (1, 2, 3):
            reader = (None, ((0, 0, 1),) * many)
            for at in range(many):
                self.assertEqual(len(cases(PLAN, reader, at)), 6)
            for at in (-1, many, True, False, None, "0", (0,), [0], 10 ** 40):
                with self.assertRaises(BadNumber, msg=at):
                    cases(PLAN, reader, at)

    def test_choices_wrong_anywhere(self):
        wrongs = []
        for path, wrong, choice in broken(CHOICE):
            if wrong is not None or len(path) < 2 or path[1] == 0:
                wrongs.append(choice)
        wrongs += [((0, 0), (2, 0)), ((1, 1), (2, 0)), ((3, None), (2, 0)), ((2, 2), (2, 0)), ((True, 0), (2, 0))]
        wrongs += [((1, False), (2, 0)), ((-1, None), (2, 0)), ((1,), (2, 0)), ((1, 0), (2, 0, 0))]
        for choice in wrongs:
            for function in (differences, ring):
                with self.assertRaises(BadChoice, msg=choice):
                    function(PLAN, READER, choice)

    def test_choices_at_another_cell(self):
        for cell, shown in ((0, 0), (1, 0), (0, 1), (1, 1), (0, 2), (1, 2)):
            told = WIDE[2][shown][0] == cell
            reader = (None, ((cell, 0, 9),))
            self.assertIs((3, shown) in cases(WIDE, reader, 0), told)
            if told:
                self.assertIsInstance(differences(WIDE, reader, ((3, shown),)), tuple)
            else:
                with self.assertRaises(BadChoice):
                    differences(WIDE, reader, ((3, shown),))

    def test_every_case_may_be_chosen(self):
        reader = (1, ((0, 1, 2), (1, 0, 3)))
        for first in cases(WIDE, reader, 0):
            for other in cases(WIDE, reader, 1):
                self.assertIsInstance(differences(WIDE, reader, (first, other)), tuple)

    def test_equal_calls_have_equal_answers(self):
        reader = (0, ((0, 1, 2), (0, 2, 2)))
        self.assertEqual(readings(PLAN, READER), readings(PLAN, reader))
        self.assertEqual(read(PLAN, READER, TIMETABLE), read(PLAN, reader, ((0, 1), (1, 2))))
        self.assertEqual(cases(PLAN, READER, 1), cases(PLAN, reader, 1))
        self.assertEqual(differences(PLAN, READER, CHOICE), differences(PLAN, reader, ((1, 0), (2, 0))))


class SmallTest(unittest.TestCase):
    def test_example(self):
        run_example(self, EXAMPLE, 6)

    def test_read_counts_from_the_tick_0_or_a_write(self):
        looks = ((0, 0, 9), (0, 0, 9), (0, 0, 9))
        self.assertEqual(read(PLAN, (None, looks), ((2, 1), (1, 1, 1))), ".ab")
        self.assertEqual(read(PLAN, (0, looks), ((2, 1), (0, 1, 2))), "aba")
        self.assertEqual(read(PLAN, (1, looks), ((2, 1), (1, 1, 2))), "ba.")

    def test_looks_of_the_same_tick_see_the_same(self):
        self.assertEqual(readings(PLAN, (1, ((0, 0, 4), (0, 0, 0)))), ("..", "aa", "bb"))
        self.assertIsNone(can_read(PLAN, (1, ((0, 0, 4), (0, 0, 0))), "ab"))

    def test_without_a_write(self):
        plan, reader = (2, (1,), ()), (None, ((0, 0, 200), (1, 7, 7)))
        self.assertEqual(readings(plan, reader), ("..",))
        pace, rests = can_read(plan, reader, "..")
        self.assertEqual((pace, rests[1]), ((), 7))
        self.assertIsNone(can_read(plan, reader, ".a"))
        self.assertEqual(cases(plan, reader, 1), ((0, None),))
        told = ((0, 1, 0), (1, 0, 200), (1, 2, -7), (2, 1, 7))
        self.assertEqual(differences(plan, reader, ((0, None), (0, None))), told)
        self.assertIsNone(ring(plan, reader, ((0, None), (0, None))))

    def test_cases_by_the_words(self):
        told = ((0, None), (1, None), (1, 0), (2, None), (2, 0), (3, None), (3, 0), (3, 2))
        # What a reader's start makes impossible can still stand by the words.
        for start in (None, 0, 2):
            self.assertEqual(cases(WIDE, (start, ((1, 0, 0), (0, 5, 5))), 1), told)
        told = ((0, None), (1, None), (2, None), (2, 1), (3, None), (3, 1))
        self.assertEqual(cases(WIDE, (0, ((1, 0, 0), (0, 5, 5))), 0), told)

    def test_differences_of_each_kind(self):
        writes = [(0, 1, 0), (1, 0, 2), (1, 2, -1), (2, 1, 2), (2, 3, 0), (3, 2, 0)]
        told = {
            (0, None): [(0, 4, -3), (4, 0, 6), (4, 1, -1)],
            (1, None): [(0, 4, -3), (4, 0, 6), (4, 2, -1), (1, 4, -5)],
            (2, 0): [(0, 4, -3), (4, 0, 6), (2, 4, 0), (4, 3, -1), (4, 1, 4)],
            (3, None): [(0, 4, -3), (4, 0, 6), (1, 4, -5), (3, 4, -2)],
            (3, 0): [(0, 4, -3), (4, 0, 6), (4, 1, 4), (3, 4, -2)],
            (3, 2): [(0, 4, -3), (4, 0, 6), (3, 4, 0), (4, 3, 1)],
        }
        for case, more in told.items():
            self.assertEqual(differences(WIDE, (None, ((0, 3, 6),)), (case,)), tuple(sorted(writes + more)), case)

    def test_only_the_least_difference_of_a_pair(self):
        # The look's high of 9 is more than the ink's stay allows, its low of 1 less than the ink's fading asks for.
        reader = (0, ((0, 1, 9),))
        told = differences(PLAN, reader, ((1, 0),))
        self.assertEqual([row for row in told if 3 in row[:2]], [(1, 3, -1), (3, 1, 4), (3, 2, -1)])
        told = differences(PLAN, reader, ((1, None),))
        self.assertEqual([row for row in told if 3 in row[:2]], [(1, 3, -5), (3, 1, 9), (3, 2, -1)])

    def test_looks_stand_behind_one_another(self):
        reader = (1, ((0, 1, 2), (0, 3, 4), (0, 5, 6)))
        told = differences(PLAN, reader, ((2, 1), (2, None), (0, None)))
        for row in ((2, 3, -1), (3, 2, 1), (3, 4, -3), (4, 3, 4), (4, 5, -5), (5, 4, 6), (5, 1, -1)):
            self.assertIn(row, told)
        self.assertNotIn((2, 4), [row[:2] for row in told if row[2] > -2])

    def test_a_ring(self):
        # The look is at the tick 3 at the earliest, the write b at 4 at the latest: nothing is bare by then.
        reader = (None, ((0, 3, 3),))
        found = ring(PLAN, reader, ((0, None),))
        told = {(x, y): c for x, y, c in differences(PLAN, reader, ((0, None),))}
        self.assertEqual(len(set(found)), len(found))
        self.assertLess(sum(told[x, y] for x, y in zip(found, found[1:] + found[:1])), 0)
