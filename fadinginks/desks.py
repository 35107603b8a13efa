"""Desks: a plan that is done step by step, each step of which can be taken back."""

from fadinginks.errors import BadNumber, NothingDone, NoWrite, TooEarly, TooLate
from fadinginks.plans import check_cell, check_plan, sign_at
from fadinginks.sure import signs_at
from fadinginks.values import is_whole


def check_many(many):
    """Raise BadNumber for any value but a number of ticks from 0 to 200."""
    if not is_whole(many, 0, 200):
        raise BadNumber("not a number of ticks from 0 to 200")


def narrowed(plan, times, now):
    """Return the plan with only those rests that are left at the tick now, times being the ticks of the writes done.

    It may be none by the bounds of a plan.
    """
    cells, stays, writes = plan
    found = []
    last = 0
    for time, write in zip(times, writes):
        found.append(write[:3] + (time - last, time - last))
        last = time
    # Only the rest of the next write has begun.
    past = now - last
    for cell, sign, ink, low, high in writes[len(times):]:
        found.append((cell, sign, ink, max(low, past), high))
        past = 0
    return (cells, stays, tuple(found))


class Desk:
    """A plan that is done by waiting and writing."""

    def __init__(self, plan):
        check_plan(plan)
        self._plan = plan
        self._now = 0
        self._times = []
        # How long each wait was, and None for each write.
        self._steps = []

    def _is_done(self):
        """Tell whether all writes are done."""
        return len(self._times) == len(self._plan[2])

    def _next_bounds(self):
        """Return the first and the last tick at which the next write can be done; there must be one."""
        last = self._times[-1] if self._times else 0
        write = self._plan[2][len(self._times)]
        return (last + write[3], last + write[4])

    def wait(self, many):
        """Let so many ticks go by."""
        check_many(many)
        if not self._is_done() and self._now + many > self._next_bounds()[1]:
            raise TooLate("the next write's high would be passed")
        self._now += many
        self._steps.append(many)

    def write(self):
        """Do the next write now."""
        if self._is_done():
            raise NoWrite("all writes are done")
        if self._now < self._next_bounds()[0]:
            raise TooEarly("the next write's low is still to come")
        self._times.append(self._now)
        self._steps.append(None)

    def undo(self):
        """Take back the last wait or write."""
        if not self._steps:
            raise NothingDone("no wait and no write to take back")
        many = self._steps.pop()
        if many is None:
            self._times.pop()
        else:
            self._now -= many

    def tick(self):
        """Return the tick that it is now."""
        return self._now

    def done(self):
        """Return how many writes are done."""
        return len(self._times)

    def board(self):
        """Return the text of what is seen now at all cells."""
        return "".join([sign_at(self._plan, self._times, cell, self._now) for cell in range(self._plan[0])])

    def coming(self, cell, many):
        """Return the ascending text of all signs that can be seen at the cell so many ticks from now."""
        check_cell(self._plan, cell)
        check_many(many)
        return signs_at(narrowed(self._plan, self._times, self._now), cell, self._now + many)

    def text(self):
        """Return the lines that tell the tick and the ticks of the writes done."""
        times = " ".join(["done"] + [str(time) for time in self._times])
        return f"tick {self._now}\n{times}\n"
