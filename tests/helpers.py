"""What several tests need: wrong values, and the document's words worked out by going through everything."""

import copy
import doctest
import itertools
import random


def nested(depth):
    """Return three values that are nested so deep: of tuples, of lists and of dicts."""
    tuples, lists, dicts = (), [], {}
    for _ in range(depth - 1):
        tuples, lists, dicts = (tuples,), [lists], {"a": dicts}
    return [tuples, lists, dicts]


# No value of these may stand anywhere in a plan, a pace, a reader, a timetable or a choice, but None,
# which is told where it may; nor may one be a cell, a tick, a number or a reading of two looks.
WRONG = [
    None, True, False, -1, -50, 10 ** 40, -(10 ** 40), 2 ** 63, "", "0", "A", "ab ", "aB", "a\n", "abc", "\u00e4",
    "\ud800", "\uff41", (None,), ("a",), (True, False), (0, (1, "a")), [], [0], [0, 1], ["a", "b"], {}, {0: 1},
    {"a": 0, "b": [1]}, [{"a": (None, [True])}], ({},), ([],),
] + nested(30)


def broken(value, path=()):
    """Yield (path, wrong, copy): copies of the value with one thing in it, the one at path, made wrong."""
    wrongs = list(WRONG)
    if isinstance(value, tuple):
        wrongs += [list(value), dict(enumerate(value)), value + (None,)]
    for wrong in wrongs:
        yield path, wrong, wrong
    if isinstance(value, tuple):
        for at, item in enumerate(value):
            for inner, wrong, made in broken(item, path + (at,)):
                yield inner, wrong, value[:at] + (made,) + value[at + 1:]


def check_order(test, function, good, bad):
    """Check the order of errors: good are right arguments, bad a list of (wrong arguments, error) for each.

    Whatever arguments are wrong together, the error is that of the first of them.
    """
    for flags in itertools.product([False, True], repeat=len(good)):
        if not any(flags):
            continue
        error = bad[flags.index(True)][1]
        for turn in range(max(len(wrongs) for wrongs, _ in bad)):
            arguments = [
                wrongs[turn % len(wrongs)] if flag else right for flag, right, (wrongs, _) in zip(flags, good, bad)
            ]
            kept = copy.deepcopy(arguments)
            with test.assertRaises(error, msg=(function.__name__, arguments)) as caught:
                function(*arguments)
            test.assertIs(type(caught.exception), error, (function.__name__, arguments))
            test.assertEqual(arguments, kept)


def all_paces(plan):
    """Return all paces of the plan."""
    return list(itertools.product(*[range(low, high + 1) for *_, low, high in plan[2]]))


def all_timetables(plan, reader):
    """Return all timetables of the plan and the reader."""
    rests = list(itertools.product(*[range(low, high + 1) for *_, low, high in reader[1]]))
    return [(pace, rest) for pace in all_paces(plan) for rest in rests]


def write_ticks(pace):
    """Return the ticks of the writes at the pace."""
    return [sum(pace[:number + 1]) for number in range(len(pace))]


def look_ticks(reader, timetable):
    """Return the ticks of the looks at the timetable."""
    pace, rests = timetable
    start = 0 if reader[0] is None else write_ticks(pace)[reader[0]]
    return [start + sum(rests[:at + 1]) for at in range(len(rests))]


def case_at(plan, pace, cell, tick):
    """Return the case (done, shown) that a look at the cell at the tick has."""
    times = write_ticks(pace)
    there = [
        number for number, (at, _, ink, _, _) in enumerate(plan[2])
        if at == cell and times[number] <= tick < times[number] + plan[1][ink]
    ]
    return (len([time for time in times if time <= tick]), there[-1] if there else None)


def choice_at(plan, reader, timetable):
    """Return the case of each look at the timetable."""
    moments = look_ticks(reader, timetable)
    return tuple(case_at(plan, timetable[0], look[0], tick) for look, tick in zip(reader[1], moments))


def text_of(plan, choice):
    """Return the reading that the choice of cases tells."""
    return "".join("." if shown is None else plan[2][shown][1] for _, shown in choice)


def has_negative_ring(events, told):
    """Tell whether some ring of the differences adds up to less than 0, by all shortest ways (Floyd, Warshall)."""
    far = 10 ** 9
    ways = [[far] * events for _ in range(events)]
    for x, y, c in told:
        ways[x][y] = min(ways[x][y], c)
    for z, x, y in itertools.product(range(events), repeat=3):
        ways[x][y] = min(ways[x][y], ways[x][z] + ways[z][y])
    return any(ways[x][x] < 0 for x in range(events))


def some_span(chance, most, wide):
    """Return bounds (low, high) from 0 to most, at most wide apart."""
    low = chance.randint(0, most)
    return (low, min(most, low + chance.randint(0, wide)))


def some_plan(chance, writes, most=4, wide=2):
    """Return a plan with so many writes, chosen by chance."""
    cells, inks = chance.randint(1, 3), chance.randint(1, 3)
    stays = tuple(chance.randint(1, 5) for _ in range(inks))
    made = [
        (chance.randrange(cells), chance.choice("abc"), chance.randrange(inks)) + some_span(chance, most, wide)
        for _ in range(writes)
    ]
    return (cells, stays, tuple(made))


def some_reader(chance, plan, looks, most=4, wide=2):
    """Return a reader of the plan with so many looks, chosen by chance."""
    start = chance.choice([None] + list(range(len(plan[2]))))
    return (start, tuple((chance.randrange(plan[0]),) + some_span(chance, most, wide) for _ in range(looks)))


def small_pairs():
    """Return pairs (plan, reader) with few enough timetables to go through all of them."""
    chance = random.Random(20)
    pairs = []
    for turn in range(150):
        plan = some_plan(chance, turn % 5, wide=2 if turn % 5 < 4 else 1)
        pairs.append((plan, some_reader(chance, plan, 1 + turn % 3)))
    return pairs


def run_example(test, example, many):
    """Check an example of the interface, of so many lines that are entered."""
    made = doctest.DocTestParser().get_doctest(example, {}, "example", None, 0)
    test.assertEqual(doctest.DocTestRunner().run(made), (0, many))


def is_told(text, claim):
    """Tell whether the claim is so at the reading."""
    word, *rest = claim
    if word == "sees":
        look, sign = rest
        return text[look] == sign
    if word == "alike":
        look, other = rest
        return text[look] == text[other]
    inner = [is_told(text, part) for part in rest]
    return {"not": not inner[0], "and": all(inner), "or": any(inner)}[word]


def some_claim(chance, looks, parts):
    """Return a claim on so many looks, of so many parts at most, chosen by chance."""
    word = chance.choice(["sees", "alike", "sees"]) if parts < 2 else chance.choice(["not", "and", "or", "or"])
    if word == "sees":
        return (word, chance.randrange(looks), chance.choice(".abc"))
    if word == "alike":
        return (word, chance.randrange(looks), chance.randrange(looks))
    if word == "not" or parts < 3:
        return ("not", some_claim(chance, looks, parts - 1))
    first = chance.randint(1, parts - 2)
    return (word, some_claim(chance, looks, first), some_claim(chance, looks, parts - 1 - first))


def check_wrongs(test, function, arguments, at, wrongs, error):
    """Check that the error is raised with each of the wrongs as the argument with the number at."""
    for wrong in wrongs:
        given = [wrong if number == at else value for number, value in enumerate(arguments)]
        with test.assertRaises(error, msg=(function.__name__, wrong)) as caught:
            function(*given)
        test.assertIs(type(caught.exception), error)


def full_plans():
    """Return plans at the ends of the bounds of [2]."""
    signs = "abcdefgh"
    plans = []
    for stays in ((50, 1, 7, 30), (50, 30, 10, 1), (1, 1, 1, 1), (50, 50, 50, 50)):
        for cells in (1, 4):
            writes = [(at % cells, signs[at], (at + at // 4) % 4, 0, 50) for at in range(8)]
            plans.append((cells, stays, tuple(writes)))
    return plans
