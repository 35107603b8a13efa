"""What can be seen and what is surely seen at a tick, and what is read when a plan is done round for round."""

from fadinginks.errors import BadNumber, NoRounds, NoSign, NoStart, TooMany
from fadinginks.plans import check_cell, check_plan, check_tick, is_sign, rest_bounds
from fadinginks.readers import all_texts, check_reader
from fadinginks.values import is_whole

MOST_WRITES = 16


def signs_at(plan, cell, tick):
    """Return the ascending text of all signs that can be seen at the cell at the tick."""
    return "".join(all_texts(plan, (None, ((cell, tick, tick),))))


def stretches(flags):
    """Return the tuple of the longest stretches (first, last) of numbers at which the flags are True."""
    found = []
    first = 0
    for number, flag in enumerate(flags):
        if not flag:
            if first < number:
                found.append((first, number - 1))
            first = number + 1
    if first < len(flags):
        found.append((first, len(flags) - 1))
    return tuple(found)


def least_round(plan):
    """Return the sum of the lows: the fewest ticks from a write to the same one in the next round."""
    return sum([low for low, _ in rest_bounds(plan)])


def check_rounds(plan):
    """Raise BadPlan or NoRounds for any value but a plan that can be done in rounds."""
    check_plan(plan)
    if least_round(plan) == 0:
        raise NoRounds("the lows do not add up to 1 or more")


def settled_round(plan):
    """Return the round from which on all rounds can show the same."""
    return 1 - (-max(plan[1]) // least_round(plan))


def can_see(plan, cell, tick):
    """Return the ascending text of all signs that can be seen at the cell at the tick, at some pace."""
    check_plan(plan)
    check_cell(plan, cell)
    check_tick(tick, 1000)
    return signs_at(plan, cell, tick)


def sure(plan, cell, sign, last):
    """Return the longest stretches of ticks from 0 to last at which the sign is seen at every pace."""
    check_plan(plan)
    check_cell(plan, cell)
    if not is_sign(sign):
        raise NoSign("neither a small letter nor the sign for bare")
    check_tick(last, 200)
    return stretches([signs_at(plan, cell, tick) == sign for tick in range(last + 1)])


def settled(plan):
    """Return the round from which on all rounds can show the same."""
    check_rounds(plan)
    return settled_round(plan)


def round_readings(plan, reader, number):
    """Return all readings, ascending, of the reader that starts at its write in the round with the number."""
    check_rounds(plan)
    check_reader(plan, reader)
    start, looks = reader
    if start is None:
        raise NoStart("the reader does not start at a write")
    if not is_whole(number, 1, 10 ** 30):
        raise BadNumber("not a round from 1 to 10 ** 30")
    cells, stays, writes = plan
    turn = min(number, settled_round(plan))
    # No write of a later round can be done by the last look.
    behind = 1 + sum([high for _, _, high in looks]) // least_round(plan)
    if (turn + behind) * len(writes) > MOST_WRITES:
        raise TooMany(MOST_WRITES)
    unrolled = (cells, stays, writes * (turn + behind))
    return all_texts(unrolled, ((turn - 1) * len(writes) + start, looks))
