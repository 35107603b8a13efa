"""[1] and [15]: desks; and [3], [10] asked at a desk."""

import copy
import random
import unittest

from fadinginks.desks import Desk
from fadinginks.errors import BadNumber, BadPlan, NoCell, NothingDone, NoWrite, TooEarly, TooLate
from fadinginks.plans import board, seen, story, ticks
from fadinginks.sure import can_see, sure
from tests.helpers import (
    WRONG, all_paces, broken, case_at, check_order, full_plans, nested, run_example, some_plan, write_ticks,
)

EXAMPLE = r"""
>>> from fadinginks.desks import Desk
>>> desk = Desk((1, (5, 2), ((0, "a", 0, 0, 2), (0, "b", 1, 1, 2))))
>>> done = [desk.wait(1), desk.write(), desk.wait(1)]
>>> [desk.board(), desk.done(), desk.tick(), desk.coming(0, 0), desk.coming(0, 2), desk.text()]
['a', 1, 2, 'ab', 'ab', 'tick 2\ndone 1\n']
"""
PLAN = (2, (5, 2), ((0, "a", 0, 0, 2), (1, "b", 1, 1, 2), (0, "c", 1, 0, 1)))
METHODS = ("wait", "write", "undo", "tick", "done", "board", "coming", "text")


def answers(plan, desk):
    """Return all that the desk answers without a step."""
    coming = [desk.coming(cell, many) for cell in range(plan[0]) for many in (0, 1, 2, 3, 5, 50, 200)]
    return [desk.tick(), desk.done(), desk.board(), desk.text(), coming]


def can_come(plan, times, now, cell, many):
    """Return the text of the signs that can be seen, all paces from now on gone through."""
    signs = set()
    for pace in all_paces(plan):
        made = write_ticks(pace)
        if made[:len(times)] == times and all(time >= now for time in made[len(times):]):
            shown = case_at(plan, pace, cell, now + many)[1]
            signs.add("." if shown is None else plan[2][shown][1])
    return "".join(sorted(signs))


class Desks(unittest.TestCase):
    def check_error(self, plan, desk, error, name, *arguments):
        """Check that the method raises the error and that all of the desk's answers stay as they were."""
        ahead = answers(plan, desk)
        kept = copy.deepcopy(arguments)
        with self.assertRaises(error, msg=(name, arguments)) as caught:
            getattr(desk, name)(*arguments)
        self.assertIs(type(caught.exception), error)
        self.assertEqual(arguments, kept)
        self.assertEqual(answers(plan, desk), ahead)

    def some_steps(self, chance, plan, desk, many):
        """Take steps at the desk by chance, some of them back; return the ticks of the writes done and the steps."""
        times, steps = [], []
        for _ in range(many):
            kind = chance.choice(["wait"] * 3 + ["write"] * 3 + ["undo"])
            last = times[-1] if times else 0
            left = plan[2][len(times):]
            now = sum(step for step in steps if step is not None)
            if kind == "undo" and steps:
                self.assertIsNone(desk.undo())
                if steps.pop() is None:
                    times.pop()
            elif kind == "wait":
                room = min(6, last + left[0][4] - now if left else 6)
                steps.append(chance.randint(0, room))
                self.assertIsNone(desk.wait(steps[-1]))
            elif kind == "write" and left and last + left[0][3] <= now <= last + left[0][4]:
                steps.append(None)
                times.append(now)
                self.assertIsNone(desk.write())
        return times, steps


class ValuesTest(Desks):
    def test_example(self):
        run_example(self, EXAMPLE, 4)

    def test_methods(self):
        for name in METHODS:
            self.assertIn(name, vars(Desk))
        self.assertEqual(Desk.__module__, "fadinginks.desks")

    def test_plans(self):
        for _, _, plan in broken(PLAN):
            kept = copy.deepcopy(plan)
            self.assertRaises(BadPlan, Desk, plan)
            self.assertEqual(plan, kept)
        for plan in nested(30) + [(1, (), ()), (5, (1,), ()), (1, (51,), ()), PLAN[:2]]:
            with self.assertRaises(BadPlan) as caught:
                Desk(plan)
            self.assertIs(type(caught.exception), BadPlan)

    def test_order_of_errors(self):
        def wait(many):
            Desk(PLAN).wait(many)

        def coming(cell, many):
            Desk(PLAN).coming(cell, many)

        numbers = (WRONG + [201, 10 ** 30, -1], BadNumber)
        check_order(self, wait, [1], [numbers])
        check_order(self, coming, [1, 7], [(WRONG + [2, 3], NoCell), numbers])
        check_order(self, Desk, [PLAN], [(WRONG, BadPlan)])

    def test_wrong_values_leave_the_desk_as_it_is(self):
        chance = random.Random(151)
        for turn in range(6):
            desk = Desk(PLAN)
            _, steps = self.some_steps(chance, PLAN, desk, 3 * turn)
            for wrong in WRONG + [201, 202]:
                self.check_error(PLAN, desk, BadNumber, "wait", wrong)
                self.check_error(PLAN, desk, BadNumber, "coming", 0, wrong)
                self.check_error(PLAN, desk, NoCell, "coming", wrong, 0)
                self.check_error(PLAN, desk, NoCell, "coming", wrong, wrong)
            for _ in steps:
                desk.undo()
            self.check_error(PLAN, desk, NothingDone, "undo")

    def test_plan_is_not_changed(self):
        kept = copy.deepcopy(PLAN)
        self.some_steps(random.Random(152), PLAN, Desk(PLAN), 40)
        self.assertEqual(PLAN, kept)

    def test_desks_of_one_plan(self):
        first, second = Desk(PLAN), Desk(PLAN)
        ahead = answers(PLAN, second)
        self.some_steps(random.Random(153), PLAN, first, 20)
        self.assertEqual(answers(PLAN, second), ahead)
        self.assertRaises(NothingDone, second.undo)


class StepsTest(Desks):
    def test_beginning(self):
        desk = Desk(PLAN)
        self.assertEqual([desk.tick(), desk.done(), desk.board(), desk.text()], [0, 0, "..", "tick 0\ndone\n"])

    def test_kinds_of_answers(self):
        desk = Desk(PLAN)
        self.assertEqual([desk.wait(0), desk.write(), desk.undo()], [None, None, None])
        kinds = [type(answer) for answer in (desk.tick(), desk.done(), desk.board(), desk.coming(0, 0), desk.text())]
        self.assertEqual(kinds, [int, int, str, str, str])

    def test_text(self):
        desk = Desk(PLAN)
        told = []
        for step in (2, None, 1, None, None, 200, 7):
            desk.write() if step is None else desk.wait(step)
            told.append(desk.text())
        self.assertEqual(told, [
            "tick 2\ndone\n", "tick 2\ndone 2\n", "tick 3\ndone 2\n", "tick 3\ndone 2 3\n", "tick 3\ndone 2 3 3\n",
            "tick 203\ndone 2 3 3\n", "tick 210\ndone 2 3 3\n",
        ])

    def test_low_and_high(self):
        for low, high in ((0, 0), (0, 3), (3, 3), (2, 5), (50, 50), (0, 50), (1, 2)):
            plan = (1, (5,), ((0, "a", 0, low, high), (0, "b", 0, low, high)))
            for first in (low, high):
                desk = Desk(plan)
                desk.wait(first)
                desk.write()
                # The second write's bounds are counted from the first one's tick.
                if low > 0:
                    self.check_error(plan, desk, TooEarly, "write")
                    desk.wait(low - 1)
                    self.check_error(plan, desk, TooEarly, "write")
                    desk.wait(1)
                desk.write()
                self.assertEqual(desk.text(), f"tick {first + low}\ndone {first} {first + low}\n")
                desk.undo()
                self.check_error(plan, desk, TooLate, "wait", high - low + 1)
                self.check_error(plan, desk, TooLate, "wait", 200)
                desk.wait(high - low)
                self.check_error(plan, desk, TooLate, "wait", 1)
                desk.wait(0)
                desk.write()
                self.assertEqual(desk.text(), f"tick {first + high}\ndone {first} {first + high}\n")
                desk.wait(200)
                self.check_error(plan, desk, NoWrite, "write")

    def test_waits(self):
        plan = (1, (5,), ())
        desk = Desk(plan)
        for many in (0, 1, 200, 200, 0, 199):
            desk.wait(many)
        self.assertEqual(desk.tick(), 600)
        self.check_error(plan, desk, BadNumber, "wait", 201)
        self.check_error(plan, desk, BadNumber, "wait", True)
        self.check_error(plan, desk, BadNumber, "wait", -1)
        # A number that is none comes ahead of a high that would be passed.
        self.check_error(PLAN, Desk(PLAN), BadNumber, "wait", 201)
        self.check_error(PLAN, Desk(PLAN), TooLate, "wait", 200)
        self.check_error(PLAN, Desk(PLAN), TooLate, "wait", 3)
        for _ in range(20):
            desk.wait(200)
        self.assertEqual([desk.tick(), desk.board(), desk.coming(0, 200)], [4600, ".", "."])

    def test_no_write(self):
        plan = (1, (5,), ())
        self.check_error(plan, Desk(plan), NoWrite, "write")
        desk = Desk(PLAN)
        for step in (None, 1, None, None):
            desk.write() if step is None else desk.wait(step)
        self.check_error(PLAN, desk, NoWrite, "write")

    def test_undo(self):
        desk = Desk(PLAN)
        self.check_error(PLAN, desk, NothingDone, "undo")
        told = [answers(PLAN, desk)]
        steps = (0, 1, 0, None, 1, 1, None, None, 0, 200, 0, 200)
        for step in steps:
            desk.write() if step is None else desk.wait(step)
            told.append(answers(PLAN, desk))
        for _ in steps:
            self.assertEqual(answers(PLAN, desk), told.pop())
            desk.undo()
        self.assertEqual(answers(PLAN, desk), told.pop())
        self.check_error(PLAN, desk, NothingDone, "undo")
        self.check_error(PLAN, desk, NothingDone, "undo")

    def test_undo_behind_errors(self):
        desk = Desk(PLAN)
        desk.wait(2)
        desk.write()
        for _ in range(3):
            self.check_error(PLAN, desk, TooEarly, "write")
            self.check_error(PLAN, desk, TooLate, "wait", 3)
        desk.undo()
        self.assertEqual(desk.text(), "tick 2\ndone\n")
        desk.undo()
        self.check_error(PLAN, desk, NothingDone, "undo")

    def test_by_chance(self):
        chance = random.Random(154)
        for turn in range(300):
            plan = some_plan(chance, turn % 9)
            desk = Desk(plan)
            times, steps = self.some_steps(chance, plan, desk, 5 + turn % 30)
            now = sum(step for step in steps if step is not None)
            self.assertEqual([desk.tick(), desk.done()], [now, len(times)])
            self.assertEqual(desk.text(), f"tick {now}\n" + " ".join(["done"] + [str(time) for time in times]) + "\n")
            shown = ["."] * plan[0]
            for time, (cell, sign, ink, _, _) in zip(times, plan[2]):
                if now < time + plan[1][ink]:
                    shown[cell] = sign
            self.assertEqual(desk.board(), "".join(shown))
            left = plan[2][len(times):]
            last = times[-1] if times else 0
            if left and now < last + left[0][3]:
                self.check_error(plan, desk, TooEarly, "write")
            if left:
                self.check_error(plan, desk, TooLate, "wait", last + left[0][4] - now + 1)
            else:
                self.check_error(plan, desk, NoWrite, "write")
            for _ in steps:
                desk.undo()
            self.assertEqual(answers(plan, desk), answers(plan, Desk(plan)))
            self.check_error(plan, desk, NothingDone, "undo")


class ComingTest(Desks):
    def test_writes_of_this_very_tick(self):
        plan = (1, (5,), ((0, "a", 0, 0, 1), (0, "b", 0, 0, 0)))
        desk = Desk(plan)
        self.assertEqual([desk.coming(0, 0), desk.coming(0, 1), desk.coming(0, 5)], [".b", "b", ".b"])
        desk.write()
        self.assertEqual([desk.board(), desk.coming(0, 0)], ["a", "b"])
        desk.undo()
        desk.wait(1)
        self.assertEqual([desk.board(), desk.coming(0, 0), desk.coming(0, 5)], [".", "b", "."])

    def test_like_all_paces(self):
        chance = random.Random(155)
        for turn in range(400):
            plan = some_plan(chance, turn % 5, wide=3)
            desk = Desk(plan)
            times, steps = self.some_steps(chance, plan, desk, turn % 17)
            now = sum(step for step in steps if step is not None)
            for cell in range(plan[0]):
                for many in (0, 1, 2, 3, 4, 5, 7, 9, 12, 20, 200):
                    wanted = can_come(plan, times, now, cell, many)
                    self.assertEqual(desk.coming(cell, many), wanted, (plan, times, now, cell, many))

    def test_at_the_ends_of_the_bounds(self):
        for plan in full_plans():
            desk = Desk(plan)
            for write in plan[2]:
                self.check_error(plan, desk, TooLate, "wait", 51)
                self.check_error(plan, desk, NoCell, "coming", plan[0], 0)
                desk.wait(50)
                self.assertIn(write[1], desk.coming(write[0], 0))
                desk.write()
            self.assertEqual([desk.tick(), desk.done()], [400, 8])
            for cell in range(plan[0]):
                told = "".join(desk.coming(cell, many) for many in range(201))
                self.assertEqual(told, "".join(seen(plan, (50,) * 8, cell, 400 + many) for many in range(201)))
            for _ in range(16):
                desk.undo()
            self.check_error(plan, desk, NothingDone, "undo")

    def test_nothing_is_changed(self):
        desk = Desk(PLAN)
        desk.wait(1)
        ahead = answers(PLAN, desk)
        self.assertEqual(answers(PLAN, desk), ahead)
        desk.undo()
        self.check_error(PLAN, desk, NothingDone, "undo")


class LikeTheFunctionsTest(Desks):
    def test_what_can_be_seen(self):
        chance = random.Random(156)
        for plan in [some_plan(chance, turn % 9) for turn in range(60)] + full_plans():
            desk = Desk(plan)
            for cell in range(plan[0]):
                told = [desk.coming(cell, many) for many in range(0, 201, 3)]
                self.assertEqual(told, [can_see(plan, cell, tick) for tick in range(0, 201, 3)])

    def test_what_is_sure(self):
        chance = random.Random(157)
        for plan in [some_plan(chance, turn % 6) for turn in range(60)]:
            desk = Desk(plan)
            for cell in range(plan[0]):
                told = [desk.coming(cell, many) for many in range(41)]
                for sign in ".abc":
                    found = [tick for first, last in sure(plan, cell, sign, 40) for tick in range(first, last + 1)]
                    self.assertEqual(found, [tick for tick in range(41) if told[tick] == sign])

    def test_what_is_seen(self):
        chance = random.Random(158)
        for turn in range(80):
            plan = some_plan(chance, turn % 8)
            pace = tuple(chance.randint(low, high) for *_, low, high in plan[2])
            times = ticks(plan, pace)
            desk = Desk(plan)
            told = []
            for tick in range(60):
                for time in times:
                    if time == tick:
                        desk.write()
                self.assertEqual([desk.tick(), desk.board()], [tick, board(plan, pace, tick)])
                told.append(desk.board())
                # What is so from now on at this pace can come.
                for cell in range(plan[0]):
                    self.assertIn(seen(plan, pace, cell, tick + 4), desk.coming(cell, 4))
                desk.wait(1)
            for cell in range(plan[0]):
                self.assertEqual("".join(shown[cell] for shown in told), story(plan, pace, cell, 59))


if __name__ == "__main__":
    unittest.main()
