"""Plans that show the same at every pace: two plans, a plan without a write, a plan with a shorter stay."""

from fadinginks.errors import NoInk, Unlike
from fadinginks.plans import check_plan, rest_bounds
from fadinginks.readers import case_differences, case_sign, look_cases, timetable_of
from fadinginks.spans import chain_spans, fits, joined, latest
from fadinginks.values import is_whole


def check_like(plan, other):
    """Raise BadPlan or Unlike for any values but two plans with the same cells, lows and highs."""
    check_plan(plan)
    check_plan(other)
    if plan[0] != other[0] or rest_bounds(plan) != rest_bounds(other):
        raise Unlike("not the same number of cells and writes and the same lows and highs")


def unlike_cases(plan, other, cell):
    """Return all pairs of a case of the plan and one of the other that show unlike signs at the cell."""
    look = (cell, 0, 0)
    found = []
    for mine in look_cases(plan, look):
        for yours in look_cases(other, look):
            if mine[0] == yours[0] and case_sign(plan, mine) != case_sign(other, yours):
                found.append((mine, yours))
    return found


def found_parting(plan, other):
    """Return (pace, cell, tick) at which the two plans differ, None if there is none, no value being checked."""
    spans = chain_spans(rest_bounds(plan))
    event = len(spans)
    for cell in range(plan[0]):
        for mine, yours in unlike_cases(plan, other, cell):
            told = case_differences(plan, event, cell, mine) + case_differences(other, event, cell, yours)
            floors = [(x, c) for x, y, c in told if y == event]
            roofs = [(y, c) for x, y, c in told if x == event]
            if fits(spans, floors, roofs):
                times = latest(joined(spans, floors, roofs))
                pace, rests = timetable_of(plan, (None, ((cell, 0, 0),)), times)
                return (pace, cell, rests[0])
    return None


def without_write(plan, number):
    """Return the plan with the write shown nowhere, its rest kept."""
    cells, stays, writes = plan
    # No cell is called None, so no look is at the write's cell any more.
    hidden = (None,) + writes[number][1:]
    return (cells, stays, writes[:number] + (hidden,) + writes[number + 1:])


def with_stay(plan, ink, stay):
    """Return the plan with another stay of the ink."""
    cells, stays, writes = plan
    return (cells, stays[:ink] + (stay,) + stays[ink + 1:], writes)


def are_alike(plan, other):
    """Tell whether at every pace, every cell and every tick the two plans show the same."""
    check_like(plan, other)
    return found_parting(plan, other) is None


def parting(plan, other):
    """Return a triple (pace, cell, tick) at which the two plans differ, None if there is none."""
    check_like(plan, other)
    return found_parting(plan, other)


def needless(plan):
    """Return the numbers, ascending, of the writes each of which alone could be left out, its rest kept."""
    check_plan(plan)
    numbers = range(len(plan[2]))
    return tuple([number for number in numbers if found_parting(plan, without_write(plan, number)) is None])


def least_stay(plan, ink):
    """Return the least stay that the ink could have, nothing else being seen."""
    check_plan(plan)
    if not is_whole(ink, 0, len(plan[1]) - 1):
        raise NoInk("not an ink of the plan")
    short, enough = 0, plan[1][ink]
    # A stay between an alike one and the plan's own is alike too: where it shows a write of the ink that the
    # shorter one does not show, the longer one shows no write above that, as such a write were younger still.
    while enough - short > 1:
        stay = (short + enough) // 2
        if found_parting(plan, with_stay(plan, ink, stay)) is None:
            enough = stay
        else:
            short = stay
    return enough
