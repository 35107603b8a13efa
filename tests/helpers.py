"""What several tests need: wrong values, and the document's words worked out by going through everything."""

import copy
import doctest
import itertools
import random
import re


def nested(depth):
    """Return three values that are nested so deep: of tuples, of lists and of dicts."""
    tuples, lists, dicts = (), [], {}
    for _ in range(depth - 1):
        tuples, lists, dicts = (tuples,), [lists], {"a": dicts}
    return [tuples, lists, dicts]


# No value of these may stand anywhere in a plan, a pace, a reader, a timetable or a choice, but None,
# which is told where it may; nor may one be a cell, a tick, a number or a reading of two looks.
WRONG = [
    None, True, False, -1, -50, 10 ** 40, -(10 ** 40), 2 ** 63, "", "0", "A", "ab ", "aB", "a\n", "abc", "\u00e4",
    "\ud800", "\uff41", (None,), ("a",), (True, False), (0, (1, "a")), [], [0], [0, 1], ["a", "b"], {}, {0: 1},
    {"a": 0, "b": [1]}, [{"a": (None, [True])}], ({},), ([],),
] + nested(30)


def broken(value, path=()):
    """Yield (path, wrong, copy): copies of the value with one thing in it, the one at path, made wrong."""
    wrongs = list(WRONG)
    if isinstance(value, tuple):
        wrongs += [list(value), dict(enumerate(value)), value + (None,)]
    for wrong in wrongs:
        yield path, wrong, wrong
    if isinstance(value, tuple):
        for at, item in enumerate(value):
            for inner, wrong, made in broken(item, path + (at,)):
                yield inner, wrong, value[:at] + (made,) + value[at + 1:]


def check_order(test, function, good, bad):
    """Check the order of errors: good are right arguments, bad a list of (wrong arguments, error) for each.

    Whatever arguments are wrong together, the error is that of the first of them.
    """
    for flags in itertools.product([False, True], repeat=len(good)):
        if not any(flags):
            continue
        error = bad[flags.index(True)][1]
        for turn in range(max(len(wrongs) for wrongs, _ in bad)):
            arguments = [
                wrongs[turn % len(wrongs)] if flag else right for flag, right, (wrongs, _) in zip(flags, good, bad)
            ]
            kept = copy.deepcopy(arguments)
            with test.assertRaises(error, msg=(function.__name__, arguments)) as caught:
                function(*arguments)
            test.assertIs(type(caught.exception), error, (function.__name__, arguments))
            test.assertEqual(arguments, kept)


def all_paces(plan):
    """Return all paces of the plan."""
    return list(itertools.product(*[range(low, high + 1) for *_, low, high in plan[2]]))


def all_timetables(plan, reader):
    """Return all timetables of the plan and the reader."""
    rests = list(itertools.product(*[range(low, high + 1) for *_, low, high in reader[1]]))
    return [(pace, rest) for pace in all_paces(plan) for rest in rests]


def write_ticks(pace):
    """Return the ticks of the writes at the pace."""
    return [sum(pace[:number + 1]) for number in range(len(pace))]


def look_ticks(reader, timetable):
    """Return the ticks of the looks at the timetable."""
    pace, rests = timetable
    start = 0 if reader[0] is None else write_ticks(pace)[reader[0]]
    return [start + sum(rests[:at + 1]) for at in range(len(rests))]


def case_at(plan, pace, cell, tick):
    """Return the case (done, shown) that a look at the cell at the tick has."""
    times = write_ticks(pace)
    there = [
        number for number, (at, _, ink, _, _) in enumerate(plan[2])
        if at == cell and times[number] <= tick < times[number] + plan[1][ink]
    ]
    return (len([time for time in times if time <= tick]), there[-1] if there else None)


def choice_at(plan, reader, timetable):
    """Return the case of each look at the timetable."""
    moments = look_ticks(reader, timetable)
    return tuple(case_at(plan, timetable[0], look[0], tick) for look, tick in zip(reader[1], moments))


def text_of(plan, choice):
    """Return the reading that the choice of cases tells."""
    return "".join("." if shown is None else plan[2][shown][1] for _, shown in choice)


def has_negative_ring(events, told):
    """Tell whether some ring of the differences adds up to less than 0, by all shortest ways (Floyd, Warshall)."""
    far = 10 ** 9
    ways = [[far] * events for _ in range(events)]
    for x, y, c in told:
        ways[x][y] = min(ways[x][y], c)
    for z, x, y in itertools.product(range(events), repeat=3):
        ways[x][y] = min(ways[x][y], ways[x][z] + ways[z][y])
    return any(ways[x][x] < 0 for x in range(events))


def some_span(chance, most, wide):
    """Return bounds (low, high) from 0 to most, at most wide apart."""
    low = chance.randint(0, most)
    return (low, min(most, low + chance.randint(0, wide)))


def some_plan(chance, writes, most=4, wide=2):
    """Return a plan with so many writes, chosen by chance."""
    cells, inks = chance.randint(1, 3), chance.randint(1, 3)
    stays = tuple(chance.randint(1, 5) for _ in range(inks))
    made = [
        (chance.randrange(cells), chance.choice("abc"), chance.randrange(inks)) + some_span(chance, most, wide)
        for _ in range(writes)
    ]
    return (cells, stays, tuple(made))


def some_reader(chance, plan, looks, most=4, wide=2):
    """Return a reader of the plan with so many looks, chosen by chance."""
    start = chance.choice([None] + list(range(len(plan[2]))))
    return (start, tuple((chance.randrange(plan[0]),) + some_span(chance, most, wide) for _ in range(looks)))


def small_pairs():
    """Return pairs (plan, reader) with few enough timetables to go through all of them."""
    chance = random.Random(20)
    pairs = []
    for turn in range(150):
        plan = some_plan(chance, turn % 5, wide=2 if turn % 5 < 4 else 1)
        pairs.append((plan, some_reader(chance, plan, 1 + turn % 3)))
    return pairs


def run_example(test, example, many):
    """Check an example of the interface, of so many lines that are entered."""
    made = doctest.DocTestParser().get_doctest(example, {}, "example", None, 0)
    test.assertEqual(doctest.DocTestRunner().run(made), (0, many))


def is_told(text, claim):
    """Tell whether the claim is so at the reading."""
    word, *rest = claim
    if word == "sees":
        look, sign = rest
        return text[look] == sign
    if word == "alike":
        look, other = rest
        return text[look] == text[other]
    inner = [is_told(text, part) for part in rest]
    return {"not": not inner[0], "and": all(inner), "or": any(inner)}[word]


def some_claim(chance, looks, parts):
    """Return a claim on so many looks, of so many parts at most, chosen by chance."""
    word = chance.choice(["sees", "alike", "sees"]) if parts < 2 else chance.choice(["not", "and", "or", "or"])
    if word == "sees":
        return (word, chance.randrange(looks), chance.choice(".abc"))
    if word == "alike":
        return (word, chance.randrange(looks), chance.randrange(looks))
    if word == "not" or parts < 3:
        return ("not", some_claim(chance, looks, parts - 1))
    first = chance.randint(1, parts - 2)
    return (word, some_claim(chance, looks, first), some_claim(chance, looks, parts - 1 - first))


def check_wrongs(test, function, arguments, at, wrongs, error):
    """Check that the error is raised with each of the wrongs as the argument with the number at."""
    for wrong in wrongs:
        given = [wrong if number == at else value for number, value in enumerate(arguments)]
        with test.assertRaises(error, msg=(function.__name__, wrong)) as caught:
            function(*given)
        test.assertIs(type(caught.exception), error)


def full_plans():
    """Return plans at the ends of the bounds of [2]."""
    signs = "abcdefgh"
    plans = []
    for stays in ((50, 1, 7, 30), (50, 30, 10, 1), (1, 1, 1, 1), (50, 50, 50, 50)):
        for cells in (1, 4):
            writes = [(at % cells, signs[at], (at + at // 4) % 4, 0, 50) for at in range(8)]
            plans.append((cells, stays, tuple(writes)))
    return plans


KEYS = "cells ink write reader begin at ask reads sure slack or and not sees bare like".split()
MARKS = [";", ":", ",", "..", "(", ")"]
# What can stand behind what in a program: for each state the kinds of words and the states behind them. The claims'
# brackets are counted beside it.
STATES = {
    "start": {"cells": "cells"}, "cells": {"NUMBER": "end"}, "end": {";": "top"},
    "top": {"ink": "ink", "write": "write", "reader": "reader", "ask": "ask"},
    "ink": {"NAME": "stay"}, "stay": {"NUMBER": "end"},
    "write": {"NUMBER": "sign"}, "sign": {"SIGN": "inked"}, "inked": {"NAME": "low"}, "low": {"NUMBER": "to"},
    "to": {"..": "stay"},
    "reader": {"NAME": "begin"}, "begin": {"begin": "colon", "write": "number"}, "number": {"NUMBER": "colon"},
    "colon": {":": "look"}, "look": {"NUMBER": "at"}, "at": {"at": "least"}, "least": {"NUMBER": "dots"},
    "dots": {"..": "most"}, "most": {"NUMBER": "looked"}, "looked": {",": "look", ";": "top"},
    "ask": {"reads": "reads", "sure": "sure", "slack": "slack"}, "reads": {"NAME": "end"}, "sure": {"NAME": "claim"},
    "slack": {"NAME": "much"}, "much": {"NUMBER": "claim"},
    "claim": {"not": "claim", "(": "claim", "NUMBER": "told"}, "told": {"sees": "seen", "bare": "so", "like": "other"},
    "seen": {"SIGN": "so"}, "other": {"NUMBER": "so"},
    "so": {"or": "claim", "and": "claim", ")": "so", ";": "top"},
}


def kind_of(word):
    """Return what kind of word it is, itself for a key or a sign, a question mark for none."""
    if word in KEYS + MARKS:
        return word
    for kind, form in (("NUMBER", "0|[1-9][0-9]{0,2}"), ("NAME", "[A-Z]{1,8}"), ("SIGN", "[a-z]")):
        if re.fullmatch(form, word):
            return kind
    return "?"


def first_misplaced(words):
    """Return the number of the first word that cannot stand there, so many as there are if the words end too early.

    None if all words can stand there and make a whole program but for what its numbers and names mean.
    """
    state, depth = "start", 0
    for number, word in enumerate(words):
        kind = kind_of(word)
        depth += {"(": 1, ")": -1}.get(kind, 0) if state in ("claim", "so") else 0
        if kind not in STATES[state] or not 0 <= depth <= 30 or (state == "so" and kind == ";" and depth):
            return number
        state = STATES[state][kind]
    return None if state == "top" else len(words)


def run_together(left, right):
    """Tell whether two words must have a blank or a line end between them."""
    return bool(re.search("[0-9A-Za-z]$", left) and re.match("[0-9A-Za-z]", right)) or left[-1] == right[0] == "."


def tight(words):
    """Return the text of the words with no needless blank."""
    text = words[0]
    for left, right in zip(words, words[1:]):
        text += " " + right if run_together(left, right) else right
    return text


def loose(chance, words):
    """Return (text, places): the words with blanks and line ends wherever they may stand, and where each begins."""
    text = chance.choice(["", " ", "\n"])
    places = []
    for number, word in enumerate(words):
        places.append(len(text))
        must = number + 1 < len(words) and run_together(word, words[number + 1])
        text += word + chance.choice(["", "", " ", "\n", " \n ", "  "][2 * must:])
    return text, places


def cut_words(text):
    """Return the words of a program that is rightly written."""
    return re.findall("[0-9A-Za-z]+|[.][.]|[;:,()]", text)


def claim_words(chance, claim, inner=False):
    """Return the words of the claim, in all brackets that it may need and in some needless ones."""
    word, *rest = claim
    if word == "sees":
        words = [str(rest[0]), "bare"] if rest[1] == "." else [str(rest[0]), "sees", rest[1]]
    elif word == "alike":
        words = [str(rest[0]), "like", str(rest[1])]
    elif word == "not":
        words = ["not"] + claim_words(chance, rest[0], True)
    else:
        words = claim_words(chance, rest[0], True) + [word] + claim_words(chance, rest[1], True)
    return ["("] + words + [")"] if inner and (word in ("and", "or") or chance.random() < 0.2) else words


def claim_tree(words):
    """Return the claim that the words tell, by splitting them at the last of the words that bind least."""
    depths = [words[:at].count("(") - words[:at].count(")") for at in range(len(words))]
    for key in ("or", "and"):
        found = [at for at, word in enumerate(words) if word == key and depths[at] == 0]
        if found:
            return (key, claim_tree(words[:found[-1]]), claim_tree(words[found[-1] + 1:]))
    if words[0] == "not":
        return ("not", claim_tree(words[1:]))
    if words[0] == "(":
        return claim_tree(words[1:-1])
    if words[1] == "like":
        return ("alike", int(words[0]), int(words[2]))
    return ("sees", int(words[0]), "." if words[1] == "bare" else words[2])


def ink_words(name, stay):
    """Return the words of an ink's statement."""
    return ["ink", name, str(stay), ";"]


def write_words(write, names):
    """Return the words of a write's statement, names being those of the inks."""
    cell, sign, ink, low, high = write
    return ["write", str(cell), sign, names[ink], str(low), "..", str(high), ";"]


def reader_words(name, reader):
    """Return the words of a reader's statement."""
    start, looks = reader
    words = ["reader", name] + (["begin"] if start is None else ["write", str(start)])
    for at, (cell, low, high) in enumerate(looks):
        words += ["," if at else ":", str(cell), "at", str(low), "..", str(high)]
    return words + [";"]


def plan_words(plan):
    """Return the words of a program that makes the plan, its inks called A, B, .."""
    cells, stays, writes = plan
    words = ["cells", str(cells), ";"]
    for name, stay in zip("ABCD", stays):
        words += ink_words(name, stay)
    for write in writes:
        words += write_words(write, "ABCD")
    return words


def some_program(chance, statements):
    """Return (words, asks): a program chosen by chance, and for each of its asks (plan, reader, question)."""
    cells = chance.randint(1, 3)
    words, asks = ["cells", str(cells), ";"], []
    inks, writes, readers = {}, [], {}
    for _ in range(statements):
        kind = chance.choice(["ink"] * 2 + ["write"] * 3 + ["reader"] * 2 + ["ask"] * 4)
        fresh = chance.choice(["INK", "A", "ABCDEFGH", "Z", "RED", "R", "BLUE", "Q", "LONGNAME", "I", "AND", "OR"])
        plan = (cells, tuple(inks.values()), tuple(writes))
        if kind == "ink" and len(inks) < 4 and fresh not in inks and fresh not in readers:
            inks[fresh] = chance.randint(1, 6)
            words += ink_words(fresh, inks[fresh])
        elif kind == "write" and inks and len(writes) < 5:
            span = some_span(chance, 4, 2)
            writes.append((chance.randrange(cells), chance.choice("abc"), chance.randrange(len(inks))) + span)
            words += write_words(writes[-1], list(inks))
        elif kind == "reader" and fresh not in inks and fresh not in readers:
            readers[fresh] = some_reader(chance, plan, chance.randint(1, 3))
            words += reader_words(fresh, readers[fresh])
        elif kind == "ask" and readers:
            name = chance.choice(list(readers))
            claim = some_claim(chance, len(readers[name][1]), chance.randint(1, 20))
            question = chance.choice([("reads",), ("sure", claim), ("slack", chance.randint(0, 50), claim)])
            words += ["ask", question[0], name] + [str(most) for most in question[1:-1]]
            words += claim_words(chance, claim) * (len(question) > 1) + [";"]
            asks.append((plan, readers[name], question))
    return words, asks
