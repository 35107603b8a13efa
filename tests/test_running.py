"""[14]: what programs are printed as and what they answer; and [5], [8], [13] asked from programs."""

import random
import re
import unittest

from fadinginks.claims import holds, slack
from fadinginks.errors import InvalidText
from fadinginks.reading import check
from fadinginks.readers import readings
from fadinginks.running import printed, run
from tests.helpers import (
    all_timetables, choice_at, claim_tree, claim_words, cut_words, full_plans, is_told, loose, plan_words, reader_words,
    run_example, small_pairs, some_claim, some_program, text_of, tight,
)

EXAMPLE = """
>>> from fadinginks.running import printed, run
>>> text = "cells 1;ink RED 5;ink BLUE 2;write 0 a RED 0..2;write 0 b BLUE 1..2;\
reader R write 1:0 at 0..0,0 at 1..2;"
>>> printed(text + "ask reads R;ask sure R(0 sees b)and not 1 bare;")
'cells 1;\\nink RED 5;\\nink BLUE 2;\\nwrite 0 a RED 0..2;\\nwrite 0 b BLUE 1..2;\\n\
reader R write 1: 0 at 0..0, 0 at 1..2;\\nask reads R;\\nask sure R 0 sees b and not 1 bare;'
>>> run(text + "ask reads R; ask sure R 0 sees b; ask sure R 0 like 1; ask slack R 9 not 1 bare;")
(('ba', 'bb'), True, False, 0)
"""
HEAD = "cells 1;ink RED 5;write 0 a RED 0..2;reader R begin:0 at 0..3,0 at 0..1;"
LEAF = ("sees", 0, ".")


def some_programs(seed, many):
    """Return (words, asks) of programs of at most 2000 signs, chosen by chance."""
    chance = random.Random(seed)
    found = [some_program(chance, 5 + turn % 12) for turn in range(many)]
    return [(words, asks) for words, asks in found if len(" ".join(words)) < 1700]


def answers(asks):
    """Return what the functions of [5], [8] and [13] answer to the asks."""
    found = []
    for plan, reader, question in asks:
        # A plan has an ink at least; one that no write is in shows nothing.
        plan = (plan[0], plan[1] or (1,), plan[2])
        if question[0] == "reads":
            found.append(readings(plan, reader))
        elif question[0] == "sure":
            found.append(holds(plan, reader, question[1]))
        else:
            found.append(slack(plan, reader, question[2], question[1]))
    return tuple(found)


class PrintedTest(unittest.TestCase):
    def test_examples(self):
        run_example(self, EXAMPLE, 4)

    def test_each_kind(self):
        for text, told in (
            ("cells 3 ;", "cells 3;"),
            ("\ncells 3;ink ABCDEFGH\n50;", "cells 3;\nink ABCDEFGH 50;"),
            ("cells 4;ink A 1;write 3 z A 0 .. 50;", "cells 4;\nink A 1;\nwrite 3 z A 0..50;"),
            ("cells 1;reader READER begin :0 at 0 .. 200 , 0 at 1..1,0 at 2..2 ;",
             "cells 1;\nreader READER begin: 0 at 0..200, 0 at 1..1, 0 at 2..2;"),
            ("cells 1;ink A 1;write 0 a A 0..0;reader R write 0:0 at 0..0;",
             "cells 1;\nink A 1;\nwrite 0 a A 0..0;\nreader R write 0: 0 at 0..0;"),
            ("cells 1;reader R begin:0 at 0..0;ask  reads R ;ask sure R 0 bare;ask slack R 10 0 like 0;",
             "cells 1;\nreader R begin: 0 at 0..0;\nask reads R;\nask sure R 0 bare;\nask slack R 10 0 like 0;"),
        ):
            self.assertEqual(printed(text), told)

    def test_one_form(self):
        chance = random.Random(1401)
        for words, _ in some_programs(1402, 250):
            told = printed(tight(words))
            self.assertEqual(printed(" ".join(words)), told)
            for _ in range(3):
                text, _ = loose(chance, words)
                if len(text) <= 2000:
                    self.assertEqual(printed(text), told)

    def test_printed_again(self):
        for words, _ in some_programs(1403, 400):
            told = printed(tight(words))
            self.assertEqual(printed(told), told)
            self.assertEqual(run(told), run(tight(words)))

    def test_blanks_and_lines(self):
        for words, _ in some_programs(1404, 300):
            told = printed(tight(words))
            self.assertEqual([line for line in told.split("\n") if not line.endswith(";") or line.count(";") > 1], [])
            self.assertEqual(told.count("\n") + 1, told.count(";"))
            inner = cut_words(told)
            spaced = " ".join(inner).replace(" ..", "..").replace(".. ", "..").replace("( ", "(")
            spaced = re.sub(" ([;:,)])", r"\1", spaced).replace("; ", ";\n")
            self.assertEqual(told, spaced)
            # Nothing but brackets is left out or put in.
            self.assertEqual([w for w in inner if w not in "()"], [w for w in words if w not in "()"])

    def test_longer_than_a_program(self):
        head = "cells 1;"
        short = "reader A begin:0 at 0..0,0 at 0..0,0 at 0..0;"
        names = [x + y for x in "ABCDEFG" for y in "ABCDEFG"]
        text = head + "".join([short.replace("A", name) for name in names])[:46 * 43]
        self.assertLessEqual(len(text), 2000)
        self.assertTrue(text.endswith(";"))
        told = printed(text)
        self.assertGreater(len(told), 2000)
        with self.assertRaises(InvalidText) as caught:
            printed(told)
        self.assertEqual(caught.exception.place, 2000)
        self.assertEqual(run(text), ())

    def test_printed_of_just_2000_signs(self):
        for size in range(1990, 2002):
            text = "cells 1;\nink A 5;\nreader R begin: 0 at 0..0;\n"
            while len(text) < size - 100:
                text += "ask reads R;\n"
            room = size - len(text + "ask sure R 0 bare;\nreader  begin: 0 at 0..0;")
            name = "Q" * (room % 4 + 4)
            text += "ask sure R " + "not " * ((room - len(name)) // 4) + "0 bare;\n"
            text += f"reader {name} begin: 0 at 0..0;"
            self.assertEqual(len(text), size)
            if size <= 2000:
                self.assertEqual(printed(text), text)
            else:
                self.assertRaises(InvalidText, printed, text)


class BracketsTest(unittest.TestCase):
    def claim_of(self, text):
        """Return the words of the claim as the program with it is printed."""
        lines = printed(HEAD + f"ask sure R {text};").split("\n")
        self.assertTrue(lines[-1].startswith("ask sure R ") and lines[-1].endswith(";"))
        return lines[-1][len("ask sure R "):-1]

    def test_needless_ones(self):
        for text, told in (
            ("((0 bare))", "0 bare"), ("(0 bare or 1 bare)or 0 like 1", "0 bare or 1 bare or 0 like 1"),
            ("(0 bare and 1 bare)and 0 like 1", "0 bare and 1 bare and 0 like 1"),
            ("(0 bare and 1 bare)or(0 like 1 and 1 sees a)", "0 bare and 1 bare or 0 like 1 and 1 sees a"),
            ("(not 0 bare)and(not(1 bare))", "not 0 bare and not 1 bare"), ("not(not(0 bare))", "not not 0 bare"),
            ("((0 bare or 1 bare))", "0 bare or 1 bare"), ("(0 bare)or((1 bare))", "0 bare or 1 bare"),
        ):
            self.assertEqual(self.claim_of(text), told)

    def test_needed_ones(self):
        for text in (
            "not (0 bare or 1 bare)", "not (0 bare and 1 bare)", "(0 bare or 1 bare) and 0 like 1",
            "0 bare and (1 bare or 0 like 1)", "0 bare or (1 bare or 0 like 1)", "0 bare and (1 bare and 0 like 1)",
            "not not (0 bare or 1 bare and 0 like 1)", "not (not (0 bare or 1 bare) and 0 bare)",
            "(0 bare or 1 bare) and (0 bare or (1 bare or 0 bare))",
            "((0 bare or 1 bare) and 0 bare or 1 bare) and 1 bare",
        ):
            self.assertEqual(self.claim_of(text), text)
            self.assertEqual(self.claim_of(text.replace(" (", "(")), text)
            self.assertEqual(self.claim_of(f"((({text})))"), text)

    def test_only_where_another_tree_would_be_read(self):
        chance = random.Random(1405)
        needed = 0
        for _ in range(500):
            claim = some_claim(chance, 2, chance.randint(1, 20))
            words = claim_words(chance, claim)
            told = cut_words(self.claim_of(tight(words)))
            self.assertEqual(claim_tree(told), claim)
            opens = [at for at, word in enumerate(told) if word == "("]
            needed += len(opens)
            for first in opens:
                last = next(
                    at for at in range(first, len(told))
                    if told[first:at + 1].count("(") == told[first:at + 1].count(")")
                )
                without = told[:first] + told[first + 1:last] + told[last + 1:]
                self.assertNotEqual(claim_tree(without), claim)
                # The package reads another tree there, too.
                self.assertEqual(self.claim_of(tight(without)), self.claim_of(" ".join(without)))
                self.assertNotEqual(cut_words(self.claim_of(tight(without))), told)
        self.assertGreater(needed, 300)


class RunTest(unittest.TestCase):
    def test_no_asks(self):
        self.assertEqual(run("cells 1;"), ())
        self.assertEqual(run(HEAD), ())

    def test_kinds_of_answers(self):
        asks = "ask reads R;ask sure R 0 bare;ask sure R 0 like 0;ask slack R 9 0 bare;ask slack R 9 0 like 0;"
        found = run(HEAD + asks)
        self.assertEqual(found, (("..", ".a", "aa"), False, True, None, 9))
        self.assertEqual([type(one) for one in found], [tuple, bool, bool, type(None), int])

    def test_ands_bind_before_ors(self):
        # At the tick 0 both cells are bare.
        head = "cells 2;reader R begin:0 at 0..0,1 at 0..0;"
        for claim, told in (
            ("0 bare or 1 sees a and 0 sees a", True), ("(0 bare or 1 sees a) and 0 sees a", False),
            ("0 sees a and 1 sees a or 0 bare", True), ("0 sees a and (1 sees a or 0 bare)", False),
            ("not 0 bare or 0 bare", True), ("not (0 bare or 0 bare)", False),
            ("not 0 bare and 0 sees a or 1 bare", True), ("not not 0 bare", True),
            ("0 like 1", True), ("not 0 like 1", False), ("0 like 1 and not 1 sees z", True),
        ):
            self.assertEqual(run(head + f"ask sure R {claim};"), (told,), claim)

    def test_plan_of_what_stands_ahead(self):
        text = "cells 1;reader R begin:0 at 1..1;ask reads R;ink A 5;ask reads R;write 0 a A 0..1;ask reads R;"
        text += "write 0 b A 0..0;ask reads R;ask sure R 0 sees b;ink B 1;"
        text += "write 0 c B 0..0;ask reads R;ask sure R 0 sees b;"
        self.assertEqual(run(text), ((".",), (".",), ("a",), ("b",), True, ("b", "c"), False))

    def test_plan_without_an_ink(self):
        text = "cells 4;reader R begin:0 at 0..200,3 at 0..200;ask reads R;ask sure R 0 like 1;ask sure R 1 sees a;"
        text += "ask slack R 50 1 bare;ask slack R 0 0 bare;ask slack R 50 not 1 bare;"
        self.assertEqual(run(text), (("..",), True, False, 50, 0, None))

    def test_like_the_functions(self):
        kinds = {}
        for words, asks in some_programs(1406, 600):
            found = run(tight(words))
            self.assertEqual(found, answers(asks), " ".join(words))
            for one in found:
                kinds[type(one), one is True] = kinds.get((type(one), one is True), 0) + 1
        self.assertEqual(len(kinds), 5)
        self.assertGreater(min(kinds.values()), 50)

    def test_like_all_timetables(self):
        chance = random.Random(1407)
        for plan, reader in small_pairs():
            texts = {text_of(plan, choice_at(plan, reader, timetable)) for timetable in all_timetables(plan, reader)}
            claims = [some_claim(chance, len(reader[1]), 6) for _ in range(3)]
            words = plan_words(plan) + reader_words("R", reader) + ["ask", "reads", "R", ";"]
            for claim in claims:
                words += ["ask", "sure", "R"] + claim_words(chance, claim) + [";"]
                words += ["ask", "slack", "R", "0"] + claim_words(chance, claim) + [";"]
            told = [all(is_told(text, claim) for text in texts) for claim in claims]
            wanted = [tuple(sorted(texts))]
            for held in told:
                wanted += [held, 0 if held else None]
            self.assertEqual(run(tight(words)), tuple(wanted))

    def test_at_the_ends_of_the_bounds(self):
        readers = [(None, ((0, 0, 200), (0, 0, 200), (0, 0, 200))), (7, ((0, 200, 200), (0, 0, 0), (0, 0, 1)))]
        claim = ("or", ("not", ("sees", 0, "h")), ("alike", 1, 2))
        chance = random.Random(1408)
        for plan in full_plans():
            for reader in readers:
                words = plan_words(plan) + reader_words("ABCDEFGH", reader)
                for question in (["reads"], ["sure"], ["slack", "50"]):
                    more = claim_words(chance, claim) if len(question) > 1 or question == ["sure"] else []
                    words += ["ask", question[0], "ABCDEFGH"] + question[1:] + more + [";"]
                asks = [(plan, reader, question) for question in (("reads",), ("sure", claim), ("slack", 50, claim))]
                self.assertEqual(run(tight(words)), answers(asks))

    def test_equal_calls(self):
        for words, _ in some_programs(1409, 40):
            text = tight(words)
            self.assertEqual([run(text), printed(text), check(text)], [run(text), printed(text), None])


if __name__ == "__main__":
    unittest.main()
