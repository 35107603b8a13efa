"""Plans, their paces, and what is seen on the board."""

from fadinginks.errors import BadPace, BadPlan, BadTick, NoCell
from fadinginks.values import are_rests, is_letter, is_row, is_span, is_whole

BARE = "."


def is_plan(value):
    """Tell whether value is a plan (cells, stays, writes)."""
    if not is_row(value, 3, 3):
        return False
    cells, stays, writes = value
    if not is_whole(cells, 1, 4) or not is_row(stays, 1, 4) or not is_row(writes, 0, 8):
        return False
    if not all([is_whole(stay, 1, 50) for stay in stays]):
        return False
    return all([is_write(write, cells, len(stays)) for write in writes])


def is_write(value, cells, inks):
    """Tell whether value is a write (cell, sign, ink, low, high)."""
    if not is_row(value, 5, 5):
        return False
    cell, sign, ink, low, high = value
    if not is_whole(cell, 0, cells - 1) or not is_letter(sign) or not is_whole(ink, 0, inks - 1):
        return False
    return is_span(low, high, 50)


def is_pace(plan, value):
    """Tell whether value is a pace of the plan."""
    return are_rests(value, rest_bounds(plan))


def is_sign(value):
    """Tell whether value is a small letter or the sign for bare."""
    return value == BARE or is_letter(value)


def rest_bounds(plan):
    """Return the pairs (low, high) of the plan's writes."""
    return [(write[3], write[4]) for write in plan[2]]


def check_plan(plan):
    """Raise BadPlan for any value but a plan."""
    if not is_plan(plan):
        raise BadPlan("not a plan (cells, stays, writes)")


def check_pace(plan, pace):
    """Raise BadPace for any value but a pace of the plan."""
    if not is_pace(plan, pace):
        raise BadPace("not a rest within its bounds for each write")


def check_cell(plan, cell):
    """Raise NoCell for any value but a cell of the plan."""
    if not is_whole(cell, 0, plan[0] - 1):
        raise NoCell("not a cell of the plan")


def check_tick(tick, most):
    """Raise BadTick for any value but an integer from 0 to most."""
    if not is_whole(tick, 0, most):
        raise BadTick(f"not a tick from 0 to {most}")


def summed(start, rests):
    """Return the ticks of events that stand these rests behind one another, the first behind start."""
    found = []
    tick = start
    for rest in rests:
        tick += rest
        found.append(tick)
    return tuple(found)


def sign_at(plan, times, cell, tick):
    """Return the sign seen at the cell at the tick, times being the ticks of the writes."""
    _, stays, writes = plan
    shown = BARE
    for time, write in zip(times, writes):
        if write[0] == cell and time <= tick < time + stays[write[2]]:
            shown = write[1]
    return shown


def ticks(plan, pace):
    """Return the tuple of the ticks at which the writes are done."""
    check_plan(plan)
    check_pace(plan, pace)
    return summed(0, pace)


def seen(plan, pace, cell, tick):
    """Return the sign seen at the cell at the tick."""
    check_plan(plan)
    check_pace(plan, pace)
    check_cell(plan, cell)
    check_tick(tick, 1000)
    return sign_at(plan, summed(0, pace), cell, tick)


def board(plan, pace, tick):
    """Return the text of what is seen at all cells at the tick."""
    check_plan(plan)
    check_pace(plan, pace)
    check_tick(tick, 1000)
    times = summed(0, pace)
    return "".join([sign_at(plan, times, cell, tick) for cell in range(plan[0])])


def story(plan, pace, cell, last):
    """Return the text of what is seen at the cell at the ticks 0 to last."""
    check_plan(plan)
    check_pace(plan, pace)
    check_cell(plan, cell)
    check_tick(last, 200)
    times = summed(0, pace)
    return "".join([sign_at(plan, times, cell, tick) for tick in range(last + 1)])
