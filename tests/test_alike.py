"""[1] and [12]: plans alike, needless writes and least stays."""

import copy
import random
import unittest

from fadinginks.alike import are_alike, least_stay, needless, parting
from fadinginks.errors import BadPlan, NoInk, Unlike
from fadinginks.plans import is_plan, seen
from tests.helpers import (
    WRONG, all_paces, broken, case_at, check_order, check_wrongs, full_plans, run_example, some_plan, text_of,
)

EXAMPLE = """
>>> from fadinginks.alike import are_alike, least_stay, needless, parting
>>> plan = (1, (2, 5), ((0, "a", 0, 0, 2), (0, "b", 1, 0, 0), (0, "b", 0, 1, 2)))
>>> [needless(plan), least_stay(plan, 0), least_stay(plan, 1)]
[(0, 2), 1, 5]
>>> [are_alike(plan, (1, (2, 6), plan[2])), parting((1, (1,), ()), (1, (2,), ()))]
[False, None]
"""
PLAN = (1, (5, 2), ((0, "a", 0, 0, 2), (0, "b", 1, 1, 2)))
OTHER = (1, (3, 2), ((0, "a", 0, 0, 2), (0, "c", 1, 1, 2)))


def shown(plan, left_out=None):
    """Return what is seen at all paces, cells and ticks, the write left_out never being there."""
    cells, stays, writes = plan
    # The others keep their ticks: the rests of what is kept are counted from one of them to the next.
    part = (cells, stays, tuple(write for number, write in enumerate(writes) if number != left_out))
    found = {}
    for pace in all_paces(plan):
        times = [sum(pace[:number + 1]) for number in range(len(pace)) if number != left_out]
        rests = tuple(time - ahead for ahead, time in zip([0] + times, times))
        for cell in range(cells):
            for tick in range(sum(pace) + max(stays) + 1):
                found[pace, cell, tick] = text_of(part, [case_at(part, rests, cell, tick)])
    return found


def parted(plan, other):
    """Return all (pace, cell, tick) at which the two plans differ."""
    mine, yours = shown(plan), shown(other)
    return {key for key in {**mine, **yours} if mine.get(key, ".") != yours.get(key, ".")}


def changed(chance, plan):
    """Return a plan like the given one but for a stay, or for a write's sign, ink or cell, chosen by chance."""
    cells, stays, writes = plan
    if not writes or chance.random() < 0.4:
        ink = chance.randrange(len(stays))
        return (cells, stays[:ink] + (chance.randint(1, 5),) + stays[ink + 1:], writes)
    number = chance.randrange(len(writes))
    write = list(writes[number])
    place = chance.randrange(3)
    write[place] = [chance.randrange(cells), chance.choice("abc"), chance.randrange(len(stays))][place]
    return (cells, stays, writes[:number] + (tuple(write),) + writes[number + 1:])


def small_plans():
    """Return plans with few enough paces to go through all of them."""
    chance = random.Random(14)
    return [some_plan(chance, turn % 5, most=3, wide=2 if turn % 5 < 4 else 1) for turn in range(150)]


class ValuesTest(unittest.TestCase):
    def test_order_of_errors(self):
        plans = (WRONG + [PLAN[:2], (0,) + PLAN[1:]], BadPlan)
        for function in (are_alike, parting):
            check_order(self, function, [PLAN, OTHER], [plans, plans])
        check_order(self, needless, [PLAN], [plans])
        check_order(self, least_stay, [PLAN, 0], [plans, (WRONG + [2], NoInk)])

    def test_plans_wrong_anywhere(self):
        for _, _, plan in broken(PLAN):
            for function in (are_alike, parting):
                check_wrongs(self, function, [plan, OTHER], 0, [plan], BadPlan)
                check_wrongs(self, function, [PLAN, plan], 1, [plan], BadPlan)
            check_wrongs(self, needless, [plan], 0, [plan], BadPlan)
            check_wrongs(self, least_stay, [plan, 0], 0, [plan], BadPlan)

    def test_unlike(self):
        unlike = [
            (2,) + PLAN[1:], (1, (5, 2), ()), (1, (5, 2), PLAN[2][:1]), (1, (5, 2), PLAN[2] + PLAN[2][:1]),
            (1, (5, 2), ((0, "a", 0, 0, 1), PLAN[2][1])), (1, (5, 2), ((0, "a", 0, 1, 2), PLAN[2][1])),
            (1, (5, 2), (PLAN[2][0], (0, "b", 1, 2, 2))), (1, (5, 2), (PLAN[2][0], (0, "b", 1, 1, 3))),
            (1, (5, 2), (PLAN[2][1], PLAN[2][0])),
        ]
        for other in unlike:
            self.assertIs(is_plan(other), True)
            for function in (are_alike, parting):
                check_wrongs(self, function, [PLAN, other], 1, [other], Unlike)
                check_wrongs(self, function, [other, PLAN], 0, [other], Unlike)
        self.assertIs(are_alike((1, (1,), ()), (1, (2, 3, 4), ())), True)
        check_wrongs(self, are_alike, [(1, (1,), ()), (2, (1,), ())], 1, [(2, (1,), ())], Unlike)

    def test_signs_cells_and_inks_may_differ(self):
        plan = (2, (5, 2), PLAN[2])
        self.assertIs(are_alike(plan, (2, (1, 1, 1), ((1, "z", 2, 0, 2), (0, "y", 0, 1, 2)))), False)
        self.assertIs(are_alike(plan, (2, (2, 9, 5), ((0, "a", 2, 0, 2), (0, "b", 0, 1, 2)))), True)

    def test_inks(self):
        for inks in (1, 2, 3, 4):
            plan = (1, (9,) * inks, ((0, "a", 0, 0, 0),))
            for ink in range(-1, 6):
                if 0 <= ink < inks:
                    self.assertEqual(least_stay(plan, ink), 1 if ink else 9)
                else:
                    check_wrongs(self, least_stay, [plan, ink], 1, [ink], NoInk)
        check_wrongs(self, least_stay, [PLAN, 0], 1, WRONG + [True, False, None, "0", (0,)], NoInk)

    def test_nothing_is_changed(self):
        plan, other = copy.deepcopy(PLAN), copy.deepcopy(OTHER)
        for _ in range(2):
            self.assertIs(are_alike(plan, other), False)
            self.assertIsNotNone(parting(plan, other))
            self.assertEqual(needless(plan), ())
            self.assertEqual(least_stay(plan, 1), 2)
        self.assertEqual((plan, other), (PLAN, OTHER))


class PartingCase(unittest.TestCase):
    def check_parting(self, plan, other, told):
        """Check are_alike and parting both ways, told telling whether the plans are alike."""
        for one, another in ((plan, other), (other, plan)):
            self.assertIs(are_alike(one, another), told, (one, another))
            found = parting(one, another)
            if told:
                self.assertIsNone(found)
                continue
            pace, cell, tick = found
            self.assertIs(type(found), tuple)
            self.assertTrue(all(type(number) is int for number in pace + (cell, tick)))
            # It asks for a pace of the plan, a cell and a tick, too.
            self.assertNotEqual(seen(one, pace, cell, tick), seen(another, pace, cell, tick))
            mine, yours = [text_of(made, [case_at(made, pace, cell, tick)]) for made in (one, another)]
            self.assertNotEqual(mine, yours)


class SmallTest(PartingCase):
    def test_example(self):
        run_example(self, EXAMPLE, 4)

    def test_partings_at_all_paces_and_ticks(self):
        chance = random.Random(15)
        found = []
        for plan in small_plans():
            for _ in range(8):
                other = changed(chance, plan)
                if chance.random() < 0.3:
                    other = changed(chance, other)
                told = not parted(plan, other)
                self.check_parting(plan, other, told)
                found.append((told, plan == other))
        self.assertGreater(found.count((True, False)), 50)
        self.assertGreater(found.count((False, False)), 50)

    def test_a_plan_is_like_itself(self):
        for plan in small_plans():
            self.check_parting(plan, copy.deepcopy(plan), True)

    def test_one_pace_and_one_tick_that_differ(self):
        # Only if b comes a tick late is the a there without it, at the tick 5.
        plan = (1, (5, 2, 6), ((0, "a", 0, 0, 0), (0, "b", 1, 4, 5)))
        other = (1, (5, 2, 6), ((0, "a", 2, 0, 0), (0, "b", 1, 4, 5)))
        self.check_parting(plan, other, True)
        late = [(cells, stays, writes[:1] + ((0, "b", 1, 4, 6),)) for cells, stays, writes in (plan, other)]
        self.check_parting(*late, False)
        self.assertEqual(parting(*late), ((0, 6), 0, 5))

    def test_a_cell_that_differs(self):
        plan = (3, (2,), ((0, "a", 0, 1, 1), (2, "b", 0, 1, 1)))
        other = (3, (2,), ((0, "a", 0, 1, 1), (2, "c", 0, 1, 1)))
        self.check_parting(plan, other, False)
        pace, cell, tick = parting(plan, other)
        self.assertEqual((pace, cell), ((1, 1), 2))
        self.assertIn(tick, (2, 3))

    def test_needless_at_all_paces_and_ticks(self):
        found = []
        for plan in small_plans():
            whole = shown(plan)
            told = []
            for number in range(len(plan[2])):
                part = shown(plan, number)
                if all(whole[key] == part[key] for key in whole):
                    told.append(number)
            self.assertEqual(needless(plan), tuple(told), plan)
            found.append(len(told))
        self.assertGreater(len([many for many in found if many]), 10)

    def test_needless_keeps_the_rest(self):
        # Without the first one's rest the second one would come earlier.
        plan = (2, (1, 3), ((0, "a", 0, 2, 2), (0, "a", 1, 0, 0), (1, "b", 0, 1, 1)))
        self.assertEqual(needless(plan), (0,))

    def test_each_alone_is_needless(self):
        plan = (1, (3,), ((0, "a", 0, 1, 2), (0, "a", 0, 0, 0)))
        self.assertEqual(needless(plan), (0, 1))
        self.assertEqual(needless((1, (3,), ())), ())
        self.assertEqual(needless((1, (3,), ((0, "a", 0, 0, 0),))), ())

    def test_least_stay_at_all_paces_and_ticks(self):
        found = []
        for plan in small_plans():
            cells, stays, writes = plan
            for ink in range(len(stays)):
                told = [
                    stay for stay in range(1, stays[ink] + 1)
                    if not parted(plan, (cells, stays[:ink] + (stay,) + stays[ink + 1:], writes))
                ]
                self.assertEqual(least_stay(plan, ink), told[0], (plan, ink))
                found.append((told[0] == 1, told[0] == stays[ink]))
        for kind in ((True, False), (False, True), (False, False)):
            self.assertGreater(found.count(kind), 5, kind)


class EndsTest(PartingCase):
    """At the ends of the bounds, with up to 51 ** 8 paces."""

    def test_full_plans(self):
        for plan in full_plans():
            cells, stays, writes = plan
            self.check_parting(plan, plan, True)
            self.assertEqual(needless(plan), ())
            for ink, stay in enumerate(stays):
                self.assertEqual(least_stay(plan, ink), stay)
                for other in (1, stay - 1, stay + 1, 50):
                    if 1 <= other <= 50:
                        longer = (cells, stays[:ink] + (other,) + stays[ink + 1:], writes)
                        self.check_parting(plan, longer, other == stay)
            for number, (cell, _, *rest) in enumerate(writes):
                another = writes[:number] + ((cell, "z", *rest),) + writes[number + 1:]
                self.check_parting(plan, (cells, stays, another), False)

    def test_one_sign_over_and_over(self):
        # Each write is done while the one ahead is still there, and hides it as soon as it comes.
        writes = tuple((0, "a", 0, 0, 50) for _ in range(8))
        self.assertEqual(needless((1, (50,), writes)), ())
        self.assertEqual(needless((1, (50,), tuple(write[:3] + (0, 25) for write in writes))), tuple(range(1, 7)))
        self.assertEqual(least_stay((1, (50,), tuple(write[:3] + (0, 25) for write in writes)), 0), 50)
        self.assertEqual(needless((1, (50,), tuple(write[:3] + (0, 0) for write in writes))), tuple(range(8)))

    def test_covered_at_the_very_end(self):
        # The ink 1 is covered at once by the ink 0, which stays 50 ticks: it may stay as long and no tick longer.
        for stay, told in ((1, 1), (49, 1), (50, 1)):
            plan = (4, (50, stay), ((3, "a", 1, 50, 50), (3, "b", 0, 0, 0)) * 4)
            self.assertEqual(least_stay(plan, 1), told)
            self.assertEqual(needless(plan), (0, 2, 4, 6))
        late = (4, (49, 50), ((3, "a", 1, 50, 50), (3, "b", 0, 0, 0)) * 4)
        self.assertEqual(least_stay(late, 1), 50)
        self.assertEqual(least_stay(late, 0), 49)
        self.check_parting(late, (4, (49, 49), late[2]), False)
        self.check_parting(late, (4, (50, 50), late[2]), False)
        self.check_parting((4, (50, 49), late[2]), (4, (50, 50), late[2]), True)
        last = (4, (50, 50, 49), late[2][:7] + ((3, "b", 2, 0, 0),))
        self.assertEqual(parting((4, (50, 50, 50), last[2]), last), ((50, 0) * 4, 3, 249))
