"""Spans: how far the ticks of events can lie apart.

A table of spans has at [x][y] the least c for which the tick of the event x
is surely at most the tick of the event y and c. It is closed: no way by
other events tells less. So one more event can be tried against the table
alone, and the table never shows a ring.

One more event comes with floors and roofs, at least one of each. A floor
(x, c) tells that the tick of x is at most the event's tick and c, a roof
(y, c) that the event's tick is at most the tick of y and c.
"""


def chain_spans(bounds):
    """Return the spans of the event 0 and of one more event for each pair (low, high) of bounds."""
    lows, highs = [0], [0]
    for low, high in bounds:
        lows.append(lows[-1] + low)
        highs.append(highs[-1] + high)
    events = range(len(lows))
    return [[highs[x] - highs[y] if x > y else lows[x] - lows[y] for y in events] for x in events]


def clash(spans, floors, roofs):
    """Return a roof's and a floor's event with no room between for one more event, None if there is room."""
    # The table is closed, so a ring through the event has one floor and one roof.
    for y, more in roofs:
        row = spans[y]
        for x, less in floors:
            if row[x] + more + less < 0:
                return (y, x)
    return None


def fits(spans, floors, roofs):
    """Tell whether one more event can stand above its floors and below its roofs."""
    return clash(spans, floors, roofs) is None


def joined(spans, floors, roofs):
    """Return the spans with one more event, the last; the event must fit."""
    events = range(len(spans))
    above = [min([spans[y][event] + more for y, more in roofs]) for event in events]
    below = [min([spans[event][x] + less for x, less in floors]) for event in events]
    wider = []
    for row, low in zip(spans, below):
        wider.append([min(span, low + high) for span, high in zip(row, above)] + [low])
    wider.append(above + [0])
    return wider


def latest(spans):
    """Return ticks of the events that keep all the spans, 0 for the event 0."""
    return [row[0] for row in spans]
