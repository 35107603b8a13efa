"""[4] to [7] against all timetables of small plans, and at the ends of the bounds."""

import itertools
import random
import unittest

from fadinginks.readers import can_read, cases, differences, read, readings, ring
from tests.helpers import (
    all_timetables, choice_at, full_plans, has_negative_ring, look_ticks, small_pairs, text_of, write_ticks,
)


def events_of(reader, timetable):
    """Return the ticks of all events at the timetable."""
    return [0] + write_ticks(timetable[0]) + look_ticks(reader, timetable)


class CheckedTest(unittest.TestCase):
    def check_can_read(self, plan, reader, text):
        """Check that the timetable is one of the plan and the reader, and that the text is read at it."""
        timetable = can_read(plan, reader, text)
        self.assertIsInstance(timetable, tuple)
        self.assertTrue(all(type(rest) is int for rests in timetable for rest in rests))
        self.assertEqual(read(plan, reader, timetable), text)
        self.assertEqual(text_of(plan, choice_at(plan, reader, timetable)), text)

    def check_ring(self, plan, reader, choice, found):
        """Check that what is found is a ring of told differences that adds up to less than 0."""
        told = {(x, y): c for x, y, c in differences(plan, reader, choice)}
        self.assertIsInstance(found, tuple)
        self.assertTrue(all(type(event) is int for event in found))
        self.assertEqual(len(set(found)), len(found))
        around = list(zip(found, found[1:] + found[:1]))
        self.assertTrue(all(step in told for step in around), (choice, found))
        self.assertLess(sum(told[step] for step in around), 0)

    def check_choice(self, plan, reader, choice):
        """Check the ring of a choice, or that there is none; return whether there is one."""
        found = ring(plan, reader, choice)
        told = differences(plan, reader, choice)
        self.assertIs(found is not None, has_negative_ring(len(plan[2]) + 1 + len(reader[1]), told))
        if found is not None:
            self.check_ring(plan, reader, choice, found)
        return found is not None


class SmallTest(CheckedTest):
    def test_readings_are_those_of_all_timetables(self):
        for plan, reader in small_pairs():
            texts = sorted({text_of(plan, choice_at(plan, reader, made)) for made in all_timetables(plan, reader)})
            self.assertEqual(readings(plan, reader), tuple(texts), (plan, reader))
            for signs in itertools.product(".abcd", repeat=len(reader[1])):
                text = "".join(signs)
                if text in texts:
                    self.check_can_read(plan, reader, text)
                else:
                    self.assertIsNone(can_read(plan, reader, text), (plan, reader, text))

    def test_read_sees_what_the_words_say(self):
        for plan, reader in small_pairs():
            for timetable in all_timetables(plan, reader)[:100]:
                self.assertEqual(read(plan, reader, timetable), text_of(plan, choice_at(plan, reader, timetable)))

    def test_a_ring_exactly_where_no_timetable_has_the_cases(self):
        for plan, reader in small_pairs()[::2]:
            looks = range(len(reader[1]))
            choices = list(itertools.product(*[cases(plan, reader, at) for at in looks]))
            stand = {choice_at(plan, reader, timetable) for timetable in all_timetables(plan, reader)}
            self.assertEqual(stand - set(choices), set())
            for choice in choices[::1 + len(choices) // 60]:
                self.assertIs(self.check_choice(plan, reader, choice), choice not in stand, (plan, reader, choice))
            for choice in sorted(stand, key=repr)[:20]:
                self.assertIsNone(ring(plan, reader, choice))

    def test_differences_hold_at_just_the_timetables_of_the_cases(self):
        for plan, reader in small_pairs()[::5]:
            looks = range(len(reader[1]))
            choices = list(itertools.product(*[cases(plan, reader, at) for at in looks]))
            made = [(events_of(reader, timetable), choice_at(plan, reader, timetable))
                    for timetable in all_timetables(plan, reader)[:60]]
            for choice in choices[::1 + len(choices) // 40] + [choice for _, choice in made[::15]]:
                told = differences(plan, reader, choice)
                self.assertEqual(told, tuple(sorted(told)))
                self.assertEqual(len({row[:2] for row in told}), len(told))
                for times, stands in made:
                    holds = all(times[x] <= times[y] + c for x, y, c in told)
                    self.assertIs(holds, stands == choice, (plan, reader, choice, times))


class EndsTest(CheckedTest):
    """Plans and readers at the ends of all bounds, with up to 51 ** 8 * 201 ** 3 timetables."""

    def test_every_reading_comes_and_no_other(self):
        for plan in full_plans():
            for start in (None, 0, 7):
                last = plan[0] - 1
                reader = (start, ((0, 0, 200), (last, 0, 200), (last // 2, 0, 200)))
                texts = readings(plan, reader)
                self.assertEqual(texts, tuple(sorted(set(texts))))
                for signs in itertools.product(".abcdefgh", repeat=3):
                    text = "".join(signs)
                    if text in texts:
                        self.check_can_read(plan, reader, text)
                    else:
                        self.assertIsNone(can_read(plan, reader, text))

    def test_readings_are_those_of_the_choices_without_rings(self):
        for plan in full_plans():
            reader = (1, ((0, 0, 200), (plan[0] - 1, 0, 200)))
            texts = set()
            for choice in itertools.product(cases(plan, reader, 0), cases(plan, reader, 1)):
                if not self.check_choice(plan, reader, choice):
                    texts.add(text_of(plan, choice))
            self.assertEqual(readings(plan, reader), tuple(sorted(texts)))

    def test_rings_of_three_looks(self):
        chance = random.Random(7)
        for plan in full_plans():
            reader = (0, ((0, 0, 200), (0, 0, 200), (plan[0] - 1, 0, 200)))
            rows = [cases(plan, reader, at) for at in range(3)]
            self.assertEqual(len(rows[0]), 45 if plan[0] == 1 else 21)
            found = [self.check_choice(plan, reader, tuple(map(chance.choice, rows))) for _ in range(150)]
            ahead = [self.check_choice(plan, reader, ((done, None),) * 3) for done in range(9)]
            self.assertIn(True, found)
            self.assertIs(ahead[0], True)
            self.assertIs(ahead[8], False)

    def test_a_reading_that_only_the_very_ends_give(self):
        # The write d is seen at its own tick alone, and can be as late as 200; so h can be as late as 400.
        plan = (1, (50, 1), tuple((0, "abcdefgh"[at], at % 2, 0, 50) for at in range(8)))
        reader = (None, ((0, 200, 200), (0, 200, 200), (0, 0, 1)))
        self.assertEqual([text for text in readings(plan, reader) if text[:2] == "dh"], ["dh.", "dhh"])
        self.assertEqual(can_read(plan, reader, "dhh"), ((50,) * 8, (200, 200, 0)))
        self.assertEqual(can_read(plan, reader, "dh."), ((50,) * 8, (200, 200, 1)))
        short = plan[2][:3] + ((0, "d", 1, 0, 49),) + plan[2][4:]
        self.assertNotIn("d", [text[0] for text in readings((1, (50, 1), short), reader)])
        self.assertIsNone(can_read((1, (50, 1), short), reader, "dhh"))

    def test_one_timetable_at_the_highest_bounds(self):
        plan = (4, (50, 1, 50, 2), tuple((at % 4, "abcdefgh"[at], at % 4, 50, 50) for at in range(8)))
        told = {
            "ab.": (None, ((0, 99, 99), (1, 1, 1), (2, 100, 100))),
            "h..": (7, ((3, 1, 1), (2, 0, 0), (0, 200, 200))),
        }
        for text, reader in told.items():
            only = ((50,) * 8, tuple(low for _, low, _ in reader[1]))
            self.assertEqual(read(plan, reader, only), text)
            self.assertEqual(readings(plan, reader), (text,))
            self.assertEqual(can_read(plan, reader, text), only)
        high = (None, ((3, 200, 200), (3, 200, 200), (0, 200, 200)))
        self.assertEqual(readings(plan, high), ("dh.",))
        self.assertEqual(can_read(plan, high, "dh."), ((50,) * 8, (200, 200, 200)))
