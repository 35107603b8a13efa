"""[1] and [14]: what a program is, and the place where a text stops being one."""

import random
import unittest

from fadinginks.errors import BadClaim, InvalidText, NotText
from fadinginks.reading import check
from fadinginks.running import printed, run
from tests.helpers import (
    KEYS, MARKS, WRONG, broken, cut_words, first_misplaced, loose, nested, run_example, some_program, tight,
)

EXAMPLE = """
>>> from fadinginks.reading import check
>>> check("cells 2;")
"""
TAKERS = (check, printed, run)
# One of each kind of statement, ask and claim; all that it means is right.
WHOLE = """cells 2; ink RED 5; ink BLUE 50; write 0 a RED 0..2; write 1 b BLUE 1..50;
reader R begin: 0 at 0..0; reader SEEN write 1: 0 at 0..2, 1 at 1..200; ask reads R; ask sure SEEN 0 sees b;
ask slack SEEN 50 not (0 like 1 or 1 bare and not not 0 sees z) or (1 sees a);"""
# Words, names, numbers and signs that cannot stand anywhere.
NOWHERE = [
    "cell", "Cells", "CELLS1", "cells1", "RED5", "5RED", "aRED", "0a", "00", "01", "000", "1000", "0000", "ABCDEFGHI",
    "Re", "rE", "seen", "ab", ".", "$", "-", "_", "\t", "\r", "\v", "\u00a0", "\u00e4", "\uff11", "\ud800", "\x00",
    "[", "]", "{", "'", "#", "=", "/", "@", "`", "\u0663", "\u00b2",
]
WORDS = KEYS + MARKS + ["0", "1", "7", "10", "200", "999", "a", "z", "A", "Z", "ABCDEFGH", "RED", "R", "SEEN"]


class Texts(unittest.TestCase):
    def check_place(self, text, place):
        """Check that the text is no program, by all that take one, and that the place is told."""
        for taker in TAKERS:
            with self.assertRaises(InvalidText, msg=(taker.__name__, text)) as caught:
                taker(text)
            self.assertIs(type(caught.exception), InvalidText)
            self.assertEqual(caught.exception.place, place, (taker.__name__, text))
            self.assertIs(type(caught.exception.place), int)

    def check_words(self, chance, words):
        """Check the place of the words, written loosely."""
        text, places = loose(chance, words)
        number = first_misplaced(words)
        if number is None:
            self.fail(f"a program: {text}")
        self.check_place(text, places[number] if number < len(words) else len(text))


class ValuesTest(Texts):
    def test_example(self):
        run_example(self, EXAMPLE, 2)

    def test_no_texts(self):
        values = [wrong for wrong in WRONG if not isinstance(wrong, str)] + nested(30)
        for value in values + [b"cells 2;", ["cells 2;"], ("cells 2;",), {"cells 2;": 1}, 1.5, 0, 2000]:
            for taker in TAKERS:
                with self.assertRaises(NotText, msg=(taker.__name__, value)) as caught:
                    taker(value)
                self.assertIs(type(caught.exception), NotText)

    def test_no_texts_are_not_changed(self):
        for _, _, value in broken(("cells 2;", [1, {"a": [None]}])):
            if isinstance(value, (list, dict, tuple)):
                kept = repr(value)
                self.assertRaises(NotText, check, value)
                self.assertEqual(repr(value), kept)

    def test_other_texts(self):
        for text in [wrong for wrong in WRONG if isinstance(wrong, str)]:
            self.check_place(text, 0)

    def test_check_returns_none(self):
        self.assertIsNone(check(WHOLE))
        self.assertIsNone(check("cells 1;"))


class PlaceTest(Texts):
    def test_shortened(self):
        # Up to each place the text ends too early, or its last word is cut off.
        for end in range(len(WHOLE)):
            text = WHOLE[:end]
            words = cut_words(text)
            number = first_misplaced(words)
            ends = text.rstrip().endswith(";")
            if not text.strip():
                self.check_place(text, end)
            elif text.endswith(".") and not text.endswith(".."):
                self.check_place(text, end - 1)
            elif number is None:
                self.assertTrue(ends)
                check(text)
            elif number < len(words):
                self.assertEqual(number, len(words) - 1)
                self.check_place(text, text.rindex(words[-1]))
            else:
                self.check_place(text, end)

    def test_ends_too_early(self):
        for text in (
            "", " ", "\n\n ", "cells", "cells 2", "cells 2; ink", "cells 2; ink RED 5 \n", "cells 2;ask sure R",
            "cells 2; ask sure R not", "cells 2;ask sure R (0 bare", "cells 2; write 0 a RED 0.. \n \n",
        ):
            self.check_place(text, len(text))

    def test_first_of_several(self):
        self.check_place("cells 2; ink RED RED; write;", 17)
        self.check_place("cells 2; ; ink RED RED", 9)
        self.check_place("ink RED 5; cells", 0)
        self.check_place(" \n cell 2 2", 3)
        self.check_place("cells 2; cells 2;", 9)
        self.check_place("cells 2 ink RED 5;", 8)

    def test_words_that_run_together(self):
        for text, place in (
            ("cells2;", 0), ("cells 2;inkRED 5;", 8), ("cells 2;ink RED5;", 12),
            ("cells 2;ink RED 5;write0 a RED 0..2;", 18),
            ("cells 2;ink RED 5;write 0a RED 0..2;", 24), ("cells 2;ink RED 5;write 0 aRED 0..2;", 26),
            ("cells 2;reader Rbegin:0 at 0..0;", 15), ("cells 2;reader R begin:0at 0..0;", 23),
            ("cells 2;ask sure R 0bare;", 19), ("cells 2;ask sure R not0 bare;", 19),
        ):
            self.check_place(text, place)

    def test_dots(self):
        head = "cells 2;ink RED 5;write 0 a RED 0"
        for dots, place in (
            (".2;", 0), (". .2;", 0), ("...2;", 2), ("....2;", 2), (".. ..2;", 3), (" .;", 1), ("..;", 2), (".", 0),
        ):
            self.check_place(head + dots, len(head) + place)
        check(head + "..2;")
        check(head + " ..\n2;")

    def test_names(self):
        for name in ("A", "Z", "ABCDEFGH", "INK", "CELLS", "ZZZZZZZZ"):
            check(f"cells 2;ink {name} 5;write 0 a {name} 0..2;reader R{name[:4]} write 0:0 at 0..2;")
        for name in ("ABCDEFGHI", "a", "Ab", "A1", "ink", "5", "(", "\u00c4", "aA", "red"):
            self.check_place(f"cells 2;ink {name} 5;", 12)

    def test_numbers(self):
        for number in ("0", "9", "10", "99", "100", "200"):
            check(f"cells 2;reader R begin:0 at 0..{number};")
        for number in ("00", "01", "001", "1000", "0000", "-1", "+1", "1a", "0x1", "\uff11", "\u00b2", "a", "A"):
            self.check_place(f"cells 2;reader R begin:0 at 0..{number};", 31)
        self.check_place("cells 2;reader R begin:0 at 0..1_0;", 32)

    def test_signs(self):
        for sign in ("a", "m", "z"):
            text = f"cells 2;ink RED 5;write 0 {sign} RED 0..2;"
            check(text + f"reader R begin:0 at 0..0;ask sure R 0 sees {sign};")
        for sign in ("A", "ab", ".", "`", "{", "\u00e4", "1", "at", "or", ","):
            self.check_place(f"cells 2;ink RED 5;write 0 {sign} RED 0..2;", 26)
            self.check_place(f"cells 2;ask sure R 0 sees {sign};", 26)

    def test_keys_stand_only_as_told(self):
        chance = random.Random(14)
        words = cut_words(WHOLE)
        for at, word in enumerate(words):
            for key in KEYS:
                if key != word:
                    made = words[:at] + [key] + words[at + 1:]
                    if first_misplaced(made) is not None:
                        self.check_words(chance, made)

    def test_one_word_wrong(self):
        chance = random.Random(15)
        words = cut_words(WHOLE)
        for at in range(len(words) + 1):
            for word in NOWHERE:
                for behind in (at, at + 1):
                    made = words[:at] + [word] + words[behind:]
                    self.assertEqual(first_misplaced(made), at)
                    self.check_words(chance, made)

    def test_words_by_chance(self):
        chance = random.Random(16)
        wrong = 0
        for _ in range(4000):
            words = cut_words(WHOLE) if chance.random() < 0.2 else some_program(chance, 8)[0]
            for _ in range(chance.randint(1, 3)):
                at = chance.randrange(len(words))
                some = [chance.choice(WORDS + NOWHERE[:12]) for _ in range(chance.randint(0, 2))]
                words = words[:at] + some + words[at + chance.randint(0, 2):] or [";"]
            text, _ = loose(chance, words)
            if first_misplaced(words) is not None and len(text) <= 2000:
                wrong += 1
                self.check_words(chance, words)
        self.assertGreater(wrong, 2000)

    def test_blanks_and_line_ends(self):
        chance = random.Random(17)
        words = cut_words(WHOLE)
        for _ in range(300):
            check(loose(chance, words)[0])
        check(tight(words))
        check("\n" + "\n".join(words) + "\n ")

    def test_other_blanks(self):
        for blank in "\t\r\v\f\u00a0\u2028\x1f\x85":
            self.check_place("cells" + blank + "2;", 5)
            self.check_place("cells 2;" + blank, 8)


class BoundsTest(Texts):
    def test_longest(self):
        text = WHOLE + " " * (2000 - len(WHOLE))
        check(text)
        run(text)
        self.check_place(text + " ", 2000)
        self.check_place(text + ";", 2000)
        self.check_place(text[:-1] + ";", 1999)
        self.check_place(text[:-2] + "in", 1998)

    def test_longest_is_ahead_of_all_else(self):
        twice = "cells 2;" + "ink RED 5;" * 200
        for text in (" " * 2001, "$" * 2001, "cells 9;" + " " * 1993, ";" * 10 ** 5, twice):
            self.check_place(text, 2000)
        self.check_place("$" * 2000, 0)
        self.check_place(" " * 2000, 2000)

    def test_brackets(self):
        for ask in ("sure R ", "slack R 50 "):
            self.check_brackets("cells 1;reader R begin:0 at 0..0;ask " + ask)

    def check_brackets(self, head):
        """Check how deep brackets can stand in the claim that the head of a program is ahead of."""
        check(head + "(" * 30 + "0 bare" + ")" * 30 + ";")
        self.check_place(head + "(" * 31 + "0 bare" + ")" * 31 + ";", len(head) + 30)
        self.check_place(head + "(" * 40, len(head) + 30)
        self.check_place(head + "(" * 30, len(head) + 30)
        self.check_place(head + "(" * 30 + "0 bare" + ")" * 31 + ";", len(head) + 66)
        self.check_place(head + "(" * 30 + "0 bare" + ")" * 29 + ";", len(head) + 65)
        # Only those that are open count, also behind a not, an and or an or.
        check(head + "(0 bare)or" * 9 + "(" * 30 + "0 bare" + ")" * 30 + ";")
        deep = "not(" * 10 + "(0 bare or " * 5 + "(0 bare and " * 15
        self.check_place(head + deep + "(0 bare", len(head) + len(deep))
        with self.assertRaises(BadClaim):
            check(head + deep + "0 bare" + ")" * 30 + ";")

    def test_many_of_all(self):
        head = "cells 1;reader R begin:0 at 0..0;ask sure R "
        for between in ("not ", "0 bare or ", "0 bare and ", "0 bare or not 0 bare and "):
            many = (2000 - len(head) - 7) // len(between)
            with self.assertRaises(BadClaim):
                check(head + between * many + "0 bare;")
            self.check_place(head + between * many, len(head + between * many))


if __name__ == "__main__":
    unittest.main()
